/-
  The operands of an instruction as the program lists them. Conditions: the tables lie in the world; the numbers are of 64 bits; the name is of at most 12 letters.
-/
import Derived.Test.YtgaoelpgdianiaaDoorReadsWrites
import Derived.Test.YtgaoelpgdianiaaDoorTexts
import Derived.Lib.OwnBridge
namespace Go.Proofs.YtgaoelpgdianiaaDoor
open Go.RowKit

theorem own_below {w w' : World} {base e n : Nat} {v : Value} {xs : List Value} (h : w.ownsRow base e 1 v n xs) (hb : Below w.heap.size w w') : w'.ownsRow base e 1 v n xs := by
  have hg : w.grownBy w' none := ⟨hb.os, hb.tape, hb.output, hb.size, fun k hk _ => hb.block k hk⟩
  refine h.kept hg ?_
  cases hv : v.ownBlock with
  | none => exact .inl rfl
  | some k => exact .inr (by simp)
theorem own_ne {w : World} {b1 b2 n1 n2 : Nat} {v1 v2 : Value} {xs1 xs2 : List Value} (h1 : w.ownsRow b1 3 1 v1 n1 xs1) (h2 : w.ownsRow b2 9 1 v2 n2 xs2) : v1.ownBlock = none ∨ v1.ownBlock ≠ v2.ownBlock := by
  rcases h1.2 with ⟨rfl, _⟩ | ⟨g1, c1, cur1, rfl, _, hg1, _⟩
  · exact .inl rfl
  · right
    rcases h2.2 with ⟨rfl, _⟩ | ⟨g2, c2, cur2, rfl, _, hg2, _⟩
    · simp [Value.ownBlock]
    · intro he
      simp only [Value.ownBlock, Option.some.injEq] at he
      subst he
      rw [hg1] at hg2
      simp at hg2

/-- The list and the registers, while the list grows. -/
def Lst (B : Nat) (W0 wr : World) (l regs : Value) (rs : List Int) (xs : List ByteArray) : Prop :=
  wr.ownsRow B 9 1 l xs.length (xs.map Value.string) ∧ wr.ownsRow B 3 1 regs rs.length (rs.map (Value.int .i64)) ∧ Below B W0 wr ∧ B ≤ wr.heap.size
theorem Lst.step {B : Nat} {W0 wr w2 w3 : World} {l regs v' : Value} {rs : List Int} {xs : List ByteArray} {u : ByteArray} {ob : Obj} (h : Lst B W0 wr l regs rs xs) (hb : Below wr.heap.size wr w2)
    (hown : w3.ownsRow B 9 1 v' (xs.length + 1) (xs.map Value.string ++ [.string u])) (hg : (w2.alloc ob).grownBy w3 l.ownBlock) : Lst B W0 w3 v' regs rs (xs ++ [u]) := by
  obtain ⟨h1, h2, h3, h4⟩ := h
  have k1 := own_below h1 hb
  have k2 := own_below h2 hb
  have hs := hb.size
  have hs3 := hg.size
  refine ⟨by rw [List.length_append, List.map_append]; exact hown, (k2.alloc ob).kept hg ?_, (h3.trans (hb.mono h4)).trans (app_below k1 hg (by omega)), by simp at hs3; omega⟩
  exact own_ne k2 k1
theorem Lst.cell {B : Nat} {W0 wr : World} {l regs : Value} {rs : List Int} {xs : List ByteArray} (h : Lst B W0 wr l regs rs xs) (g j : Nat) {u : Value} (hg : g < B) (hc : W0.cell? ⟨g, j, none⟩ = some u) : wr.cell? ⟨g, j, none⟩ = some u := (h.2.2.1.cell (p := ⟨g, j, none⟩) hg).trans hc
theorem tab_below {B : Nat} {W0 wr : World} (hT : Tab W0) (hb : Below B W0 wr) (hB : 3 < B) : Tab wr := by
  have hc : ∀ p : Addr, p.block < B → wr.cell? p = W0.cell? p := fun p hp => hb.cell hp
  refine ⟨fun n hn => ?_, fun f hf => ?_, ?_, by have := hb.size; have := hT.big; omega⟩
  · rw [hc ⟨0, n * 4, none⟩ (by simp; omega), hc ⟨0, n * 4 + 1, none⟩ (by simp; omega), hc ⟨0, n * 4 + 2, none⟩ (by simp; omega), hc ⟨0, n * 4 + 3, none⟩ (by simp; omega)]
    exact hT.ops n hn
  · rw [hc ⟨1, f * 6, none⟩ (by simp; omega), hc ⟨1, f * 6 + 1, none⟩ (by simp; omega), hc ⟨1, f * 6 + 2, none⟩ (by simp; omega), hc ⟨1, f * 6 + 3, none⟩ (by simp; omega), hc ⟨1, f * 6 + 4, none⟩ (by simp; omega), hc ⟨1, f * 6 + 5, none⟩ (by simp; omega)]
    exact hT.forms f hf
  · have hg : Tryd.prog.globalNamed "internal/strconv.uint64pow10" = some 3 := by kernel_rfl
    have := hT.pow
    unfold Lib.TabIs World.var? at this ⊢
    rw [hg] at this ⊢
    simp only [Option.bind_some] at this ⊢
    rw [hb.block 3 hB]
    exact this

def RevPost (v : Value) (zs : List Int) (base : Nat) (w : World) (e : Ending) (w' : World) : Prop := e = .returned (.tuple #[]) ∧ w'.ownsRow base 3 1 v zs.length (zs.map (Value.int .i64)) ∧ Below base w w'
theorem rev_any (zs : List Int) (v : Value) (base : Nat) (w : World) (h : w.ownsRow base 3 1 v zs.length (zs.map (Value.int .i64))) (h0 : 0 < zs.length) (hl : zs.length ≤ 100) : Calls Tryd.prog 59 #[v] w (RevPost v zs.reverse base w) := by
  obtain ⟨g, cap, rfl, hb, hlt, hn, hm, hle, hH⟩ := Lib.holds_of_ownsRow h (by intro e; rw [e] at h; rcases h.2 with ⟨_, hz⟩ | ⟨_, _, _, e2, _⟩; omega; cases e2)
  refine (Tryd.slices_Reverse_int g 0 cap zs w hH (by omega)).mono fun e w' ⟨he, q, hw⟩ => ⟨he, ?_, ?_⟩
  · subst hw
    have := Lib.ownsRow_putRow (q := q) (k := zs.length) (ys := zs.reverse) h (by simp) (Nat.le_refl _)
    rw [List.take_of_length_le (by simp)] at this
    simpa using this
  · subst hw
    exact Lib.below_putRow (Below.refl _ _) hb

/-- The registers in the text's order. -/
def regsL (f : Nat) (a b : Int) : List Int := if f = 5 then (readsL f a b).reverse else readsL f a b
/-- The operands. -/
def opsL (f : Nat) (d a b m : Int) (s : ByteArray) : List ByteArray :=
  (if sd f then [regT d] else []) ++ (regsL f a b).map regT ++ (if 0 < shi f then [valT m s] else [])
def StrsPost (xs : List ByteArray) (w : World) (e : Ending) (w' : World) : Prop := ∃ v, e = .returned v ∧ w'.ownsRow w.heap.size 9 1 v xs.length (xs.map Value.string) ∧ Below w.heap.size w w'
theorem reads_in (f : Nat) (a b : Int) (ha : I64 a) (hb : I64 b) : ∀ r ∈ readsL f a b, I64 r := by
  intro r hr
  unfold readsL at hr
  rcases List.mem_append.1 hr with h | h
  · split at h
    · simp at h; subst h; exact ha
    · simp at h
  · split at h
    · simp at h; subst h; exact hb
    · simp at h
theorem regs_in (f : Nat) (a b : Int) (ha : I64 a) (hb : I64 b) : ∀ r ∈ regsL f a b, I64 r := by
  unfold regsL
  split
  · intro r hr; exact reads_in f a b ha hb r (by simpa using hr)
  · exact reads_in f a b ha hb
theorem regs_le (f : Nat) (a b : Int) : (regsL f a b).length ≤ 2 := by unfold regsL; split <;> simp [readsL_le]
set_option maxHeartbeats 4000000 in
set_option maxRecDepth 100000 in
theorem oper_000 (n : Nat) (d a b m : Int) (s : ByteArray) (w : World) (h : n < 34) (H : Tab w) (ha : I64 a) (hb0 : I64 b) (hdd : I64 d) (hm : I64 m) (_hs : s.size ≤ 12) (cd : sd (fm n) = false) (c5 : fm n ≠ 5) (ch : shi (fm n) ≤ 0) :
    Calls Tryd.prog 45 #[.agg #[.int .i64 n, .int .i64 d, .int .i64 a, .int .i64 b, .int .i64 m, .string s]] w (StrsPost (opsL (fm n) d a b m s) w) := by
  have T := Lib.hid H
  have HD := Lib.hid hdd
  have HM := Lib.hid hm
  have RI := Lib.hid (regs_in (fm n) a b ha hb0)
  have RE := Lib.hid (regs_le (fm n) a b)
  have OL := Lib.hid (show opsL (fm n) d a b m s = [] ++ (regsL (fm n) a b).map regT ++ [] by unfold opsL; rw [cd]; simp; omega)
  have R5 := Lib.hid (show regsL (fm n) a b = readsL (fm n) a b by unfold regsL; rw [if_neg c5])
  have hh : decide (0 < shi (fm n)) = false := by simp; omega
  have e5 : ((fm n : Int) == 5) = false := by rw [beq_eq_false_iff_ne]; omega
  have big := H.big
  clear H ha hb0 hdd hm c5 ch
  go_enter Tryd.func45, Tryd.ntmps45
  go_wp2_with fail
  refine (shape_any _ _ h (T.out.alloc _)).mono ?_
  rintro e w1 ⟨rfl, hb⟩
  rw [cd]
  obtain ⟨q, hz, hB⟩ := box_cells hb
  have k0 : w1.cell? ⟨w.heap.size, 0, none⟩ = some (.int .i64 n) := q 0
  have k1 : w1.cell? ⟨w.heap.size, 1, none⟩ = some (.int .i64 d) := q 1
  have k2 : w1.cell? ⟨w.heap.size, 2, none⟩ = some (.int .i64 a) := q 2
  have k3 : w1.cell? ⟨w.heap.size, 3, none⟩ = some (.int .i64 b) := q 3
  have k4 : w1.cell? ⟨w.heap.size, 4, none⟩ = some (.int .i64 m) := q 4
  have k5 : w1.cell? ⟨w.heap.size, 5, none⟩ = some (.string s) := q 5
  have T1 := Lib.hid ((T.out.alloc _).below hb)
  have HB := Lib.hid hB
  clear q hb hB cd
  generalize hbs : sa (fm n) = xa
  generalize hbs2 : sb (fm n) = xb
  generalize hbs3 : stg (fm n) = xt
  generalize hbs4 : slo (fm n) = xl
  clear hbs hbs2 hbs3 hbs4
  have hbw : Below (w1.heap.size + 1) (w1.alloc (.cells #[.bool false, .bool xa, .bool xb, .int .i64 xl, .int .i64 (shi (fm n)), .bool xt] 65)) (w1.alloc (.cells #[.bool false, .bool xa, .bool xb, .int .i64 xl, .int .i64 (shi (fm n)), .bool xt] 65)) := Below.refl _ _
  have HW := Lib.hid hbw
  clear hbw
  go_wp2_with fail
  refine (readsOf_any _ _ _ _ _ _ _ h (T1.out.alloc _)).mono ?_
  rintro e w4 ⟨v2, rfl, hown2, hb4⟩
  have hown3 := own_le (base' := w1.heap.size + 1) hown2 (by simp)
  have L4 := Lib.hid (show w4.ownsRow (w1.heap.size + 1) 9 1 (.slice none 0 0) 0 (([] : List ByteArray).map Value.string) from World.ownsRow_nil _ _ _ _)
  have M4 := Lib.hid hown3
  have HW4 := Lib.hid (HW.out.trans (hb4.mono (by simp)))
  have hz4 : w1.heap.size + 1 ≤ w4.heap.size := by have := hb4.size; simpa using this
  have T4 := Lib.hid ((T1.out.alloc _).below hb4)
  have hc : ∀ j u, w1.cell? ⟨w.heap.size, j, none⟩ = some u → w4.cell? ⟨w.heap.size, j, none⟩ = some u := fun j u hu => (hb4.cell (p := ⟨w.heap.size, j, none⟩) (by simp; omega)).trans ((World.cell?_alloc_lt _ _ ⟨w.heap.size, j, none⟩ hz).trans hu)
  have J0 := hc _ _ k0
  have J1 := hc _ _ k1
  have J2 := hc _ _ k2
  have J3 := hc _ _ k3
  have J4 := hc _ _ k4
  have J5 := hc _ _ k5
  have C5 := Lib.hid (show w4.cell? ⟨w1.heap.size, 4, none⟩ = some (.int .i64 (shi (fm n))) from (hb4.cell (p := ⟨w1.heap.size, 4, none⟩) (by simp)).trans (by simp [go_sem]))
  clear hc hown2 hown3 hb4 k0 k1 k2 k3 k4 k5
  obtain ⟨t1, t2, t3, t4⟩ := T4.out.ops n h
  have big4 := T4.out.big
  have i0 : (0 : Int) ≤ (n : Int) := by omega
  have i1 : (n : Int) < 34 := by omega
  clear t1 t3 t4
  have hv2 : ∃ A c, v2 = .slice A (regsL (fm n) a b).length c := by
    have hh2 := M4.out
    have he : (regsL (fm n) a b).length = (readsL (fm n) a b).length := by rw [R5.out]
    rw [he]
    rcases hh2.2 with ⟨rfl, h0⟩ | ⟨g, cap, cur, rfl, _⟩
    · exact ⟨none, 0, by rw [h0]⟩
    · exact ⟨_, _, rfl⟩
  obtain ⟨A, c, rfl⟩ := hv2
  have ST := Lib.hid (show Lst (w1.heap.size + 1) (w1.alloc (.cells #[.bool false, .bool xa, .bool xb, .int .i64 xl, .int .i64 (shi (fm n)), .bool xt] 65)) w4 (.slice none 0 0) (.slice A (regsL (fm n) a b).length c) (regsL (fm n) a b) [] from ⟨L4.out, by have hm4 := M4.out; rw [← R5.out] at hm4; exact hm4, HW4.out, by omega⟩)
  clear R5 L4 M4
  generalize hrs : regsL (fm n) a b = rs at *
  clear hrs
  have hlen : rs.length ≤ 2 := RE.out
  generalize hln : rs.length = ln at *
  have HLN := Lib.hid hln
  clear hln
  go_wp2_with fail
  clear HW4
  go_loopw [4, 31] (fun l i wr2 => ∃ k : Nat, k ≤ ln ∧ i = .int .i64 k ∧ Lst (w1.heap.size + 1) (w1.alloc (.cells #[.bool false, .bool xa, .bool xb, .int .i64 xl, .int .i64 (shi (fm n)), .bool xt] 65)) wr2 l (.slice A ln c) rs ([] ++ (rs.take k).map regT)) (fun _ i _ => ln - (intOf i).toNat)
  case atStart => exact ⟨0, by omega, rfl, by simpa using ST.out⟩
  case round =>
    clear ST
    obtain ⟨k, hk, rfl, hst⟩ := hrel
    have ST := Lib.hid hst
    clear hst
    have B5 := Lib.hid ST.out.2.2.2
    by_cases hlt : k < ln
    · have hdk : decide ((k : Int) < (ln : Int)) = true := by simpa using hlt
      have i2 : (0 : Int) ≤ (k : Int) := by omega
      have i3 : (k : Int) < (ln : Int) := by omega
      have hkl : k < rs.length := by have := HLN.out; omega
      have hrow := ST.out.2.1
      rw [HLN.out] at hrow
      obtain ⟨g, cap, hv, _, hgl⟩ := hrow.form (by omega)
      injection hv with hv1 _ hv3
      subst hv1
      have hr := hrow.cellAt k (by omega)
      rw [List.getElem?_map, List.getElem?_eq_getElem hkl] at hr
      simp only [Option.map_some] at hr
      have IR := Lib.hid (RI.out _ (List.getElem_mem hkl))
      have TS := Lib.hid (List.take_succ_eq_append_getElem hkl)
      generalize rs[k] = r at hr IR TS
      have T5 := Lib.hid (tab_below (T1.out.alloc _) ST.out.2.2.1 (by have := T1.out.big; omega))
      clear hrow hv3 hgl hkl
      have XL := Lib.hid (show ([] ++ (rs.take k).map regT).length ≤ 1000 by have := List.length_take_le k rs; simp; omega)
      generalize hX : [] ++ (rs.take k).map regT = X at ST XL
      have HX := Lib.hid hX
      clear hX
      go_wp2_with (first | (go_at_call 58; refine (reg58 _ _ IR.out T5.out).mono ?_; rintro e w6 ⟨rfl, hb6⟩; have B6 := Lib.hid hb6; clear hb6) | (at_builtin; refine app_one 23 9 16 (.string ⟨#[]⟩) Tryd.info9 rfl (by decide) Tryd.underlying23 (by rfl) _ _ (by rfl) _ (w1.heap.size + 1) X.length _ _ _ (by rfl) (own_below ST.out.1 B6.out) XL.out (by rfl) _ (by rfl) (by simp) ?hb ?_))
      case hb => have := B6.out.size; have := B5.out; omega
      intro v7 w7 hown7 hg7
      have S7 := Lib.hid (ST.out.step B6.out hown7 hg7)
      clear hown7 hg7
      go_wp2
      go_roundw
      case rel => exact ⟨k + 1, by omega, by go_num, by rw [TS.out, List.map_append, ← List.append_assoc, HX.out]; exact S7.out⟩
      case measure => simp [intOf]; omega
    · have hdk : decide ((k : Int) < (ln : Int)) = false := by simp; omega
      have Z4 := ST.out.cell w1.heap.size 4 (u := .int .i64 (shi (fm n))) (by omega) (by simp [go_sem])
      have XS := Lib.hid (show [] ++ (rs.take k).map regT = [] ++ rs.map regT by rw [List.take_of_length_le (by have := HLN.out; omega)])
      have S8 := Lib.hid (XS.out ▸ ST.out)
      clear XS ST
      go_wp2
      go_ret
      exact ⟨_, rfl, by rw [OL.out, List.append_nil]; exact own_le S8.out.1 (by omega), (HB.out.alloc (by omega) _).trans (S8.out.2.2.1.mono (by omega))⟩
set_option maxHeartbeats 4000000 in
set_option maxRecDepth 100000 in
theorem oper_001 (n : Nat) (d a b m : Int) (s : ByteArray) (w : World) (h : n < 34) (H : Tab w) (ha : I64 a) (hb0 : I64 b) (hdd : I64 d) (hm : I64 m) (hs : s.size ≤ 12) (cd : sd (fm n) = false) (c5 : fm n ≠ 5) (ch : 0 < shi (fm n)) :
    Calls Tryd.prog 45 #[.agg #[.int .i64 n, .int .i64 d, .int .i64 a, .int .i64 b, .int .i64 m, .string s]] w (StrsPost (opsL (fm n) d a b m s) w) := by
  have T := Lib.hid H
  have HD := Lib.hid hdd
  have HM := Lib.hid hm
  have RI := Lib.hid (regs_in (fm n) a b ha hb0)
  have RE := Lib.hid (regs_le (fm n) a b)
  have OL := Lib.hid (show opsL (fm n) d a b m s = [] ++ (regsL (fm n) a b).map regT ++ [valT m s] by unfold opsL; rw [cd]; simp; omega)
  have R5 := Lib.hid (show regsL (fm n) a b = readsL (fm n) a b by unfold regsL; rw [if_neg c5])
  have hh : decide (0 < shi (fm n)) = true := by simp; omega
  have e5 : ((fm n : Int) == 5) = false := by rw [beq_eq_false_iff_ne]; omega
  have big := H.big
  clear H ha hb0 hdd hm c5 ch
  go_enter Tryd.func45, Tryd.ntmps45
  go_wp2_with fail
  refine (shape_any _ _ h (T.out.alloc _)).mono ?_
  rintro e w1 ⟨rfl, hb⟩
  rw [cd]
  obtain ⟨q, hz, hB⟩ := box_cells hb
  have k0 : w1.cell? ⟨w.heap.size, 0, none⟩ = some (.int .i64 n) := q 0
  have k1 : w1.cell? ⟨w.heap.size, 1, none⟩ = some (.int .i64 d) := q 1
  have k2 : w1.cell? ⟨w.heap.size, 2, none⟩ = some (.int .i64 a) := q 2
  have k3 : w1.cell? ⟨w.heap.size, 3, none⟩ = some (.int .i64 b) := q 3
  have k4 : w1.cell? ⟨w.heap.size, 4, none⟩ = some (.int .i64 m) := q 4
  have k5 : w1.cell? ⟨w.heap.size, 5, none⟩ = some (.string s) := q 5
  have Hk0 := Lib.hid k0
  have Hk1 := Lib.hid k1
  have Hk2 := Lib.hid k2
  have Hk3 := Lib.hid k3
  have Hk4 := Lib.hid k4
  have Hk5 := Lib.hid k5
  have T1 := Lib.hid ((T.out.alloc _).below hb)
  have HB := Lib.hid hB
  clear q hb hB cd
  generalize hbs : sa (fm n) = xa
  generalize hbs2 : sb (fm n) = xb
  generalize hbs3 : stg (fm n) = xt
  generalize hbs4 : slo (fm n) = xl
  clear hbs hbs2 hbs3 hbs4
  have hbw : Below (w1.heap.size + 1) (w1.alloc (.cells #[.bool false, .bool xa, .bool xb, .int .i64 xl, .int .i64 (shi (fm n)), .bool xt] 65)) (w1.alloc (.cells #[.bool false, .bool xa, .bool xb, .int .i64 xl, .int .i64 (shi (fm n)), .bool xt] 65)) := Below.refl _ _
  have HW := Lib.hid hbw
  clear hbw
  go_wp2_with fail
  refine (readsOf_any _ _ _ _ _ _ _ h (T1.out.alloc _)).mono ?_
  rintro e w4 ⟨v2, rfl, hown2, hb4⟩
  have hown3 := own_le (base' := w1.heap.size + 1) hown2 (by simp)
  have L4 := Lib.hid (show w4.ownsRow (w1.heap.size + 1) 9 1 (.slice none 0 0) 0 (([] : List ByteArray).map Value.string) from World.ownsRow_nil _ _ _ _)
  have M4 := Lib.hid hown3
  have HW4 := Lib.hid (HW.out.trans (hb4.mono (by simp)))
  have hz4 : w1.heap.size + 1 ≤ w4.heap.size := by have := hb4.size; simpa using this
  have T4 := Lib.hid ((T1.out.alloc _).below hb4)
  have hc : ∀ j u, w1.cell? ⟨w.heap.size, j, none⟩ = some u → w4.cell? ⟨w.heap.size, j, none⟩ = some u := fun j u hu => (hb4.cell (p := ⟨w.heap.size, j, none⟩) (by simp; omega)).trans ((World.cell?_alloc_lt _ _ ⟨w.heap.size, j, none⟩ hz).trans hu)
  have J0 := hc _ _ k0
  have J1 := hc _ _ k1
  have J2 := hc _ _ k2
  have J3 := hc _ _ k3
  have J4 := hc _ _ k4
  have J5 := hc _ _ k5
  have C5 := Lib.hid (show w4.cell? ⟨w1.heap.size, 4, none⟩ = some (.int .i64 (shi (fm n))) from (hb4.cell (p := ⟨w1.heap.size, 4, none⟩) (by simp)).trans (by simp [go_sem]))
  clear hc hown2 hown3 hb4 k0 k1 k2 k3 k4 k5
  obtain ⟨t1, t2, t3, t4⟩ := T4.out.ops n h
  have big4 := T4.out.big
  have i0 : (0 : Int) ≤ (n : Int) := by omega
  have i1 : (n : Int) < 34 := by omega
  clear t1 t3 t4
  have hv2 : ∃ A c, v2 = .slice A (regsL (fm n) a b).length c := by
    have hh2 := M4.out
    have he : (regsL (fm n) a b).length = (readsL (fm n) a b).length := by rw [R5.out]
    rw [he]
    rcases hh2.2 with ⟨rfl, h0⟩ | ⟨g, cap, cur, rfl, _⟩
    · exact ⟨none, 0, by rw [h0]⟩
    · exact ⟨_, _, rfl⟩
  obtain ⟨A, c, rfl⟩ := hv2
  have ST := Lib.hid (show Lst (w1.heap.size + 1) (w1.alloc (.cells #[.bool false, .bool xa, .bool xb, .int .i64 xl, .int .i64 (shi (fm n)), .bool xt] 65)) w4 (.slice none 0 0) (.slice A (regsL (fm n) a b).length c) (regsL (fm n) a b) [] from ⟨L4.out, by have hm4 := M4.out; rw [← R5.out] at hm4; exact hm4, HW4.out, by omega⟩)
  clear R5 L4 M4
  generalize hrs : regsL (fm n) a b = rs at *
  clear hrs
  have hlen : rs.length ≤ 2 := RE.out
  generalize hln : rs.length = ln at *
  have HLN := Lib.hid hln
  clear hln
  go_wp2_with fail
  clear HW4
  go_loopw [4, 31] (fun l i wr2 => ∃ k : Nat, k ≤ ln ∧ i = .int .i64 k ∧ Lst (w1.heap.size + 1) (w1.alloc (.cells #[.bool false, .bool xa, .bool xb, .int .i64 xl, .int .i64 (shi (fm n)), .bool xt] 65)) wr2 l (.slice A ln c) rs ([] ++ (rs.take k).map regT)) (fun _ i _ => ln - (intOf i).toNat)
  case atStart => exact ⟨0, by omega, rfl, by simpa using ST.out⟩
  case round =>
    clear ST
    obtain ⟨k, hk, rfl, hst⟩ := hrel
    have ST := Lib.hid hst
    clear hst
    have B5 := Lib.hid ST.out.2.2.2
    by_cases hlt : k < ln
    · have hdk : decide ((k : Int) < (ln : Int)) = true := by simpa using hlt
      have i2 : (0 : Int) ≤ (k : Int) := by omega
      have i3 : (k : Int) < (ln : Int) := by omega
      have hkl : k < rs.length := by have := HLN.out; omega
      have hrow := ST.out.2.1
      rw [HLN.out] at hrow
      obtain ⟨g, cap, hv, _, hgl⟩ := hrow.form (by omega)
      injection hv with hv1 _ hv3
      subst hv1
      have hr := hrow.cellAt k (by omega)
      rw [List.getElem?_map, List.getElem?_eq_getElem hkl] at hr
      simp only [Option.map_some] at hr
      have IR := Lib.hid (RI.out _ (List.getElem_mem hkl))
      have TS := Lib.hid (List.take_succ_eq_append_getElem hkl)
      generalize rs[k] = r at hr IR TS
      have T5 := Lib.hid (tab_below (T1.out.alloc _) ST.out.2.2.1 (by have := T1.out.big; omega))
      clear hrow hv3 hgl hkl
      have XL := Lib.hid (show ([] ++ (rs.take k).map regT).length ≤ 1000 by have := List.length_take_le k rs; simp; omega)
      generalize hX : [] ++ (rs.take k).map regT = X at ST XL
      have HX := Lib.hid hX
      clear hX
      go_wp2_with (first | (go_at_call 58; refine (reg58 _ _ IR.out T5.out).mono ?_; rintro e w6 ⟨rfl, hb6⟩; have B6 := Lib.hid hb6; clear hb6) | (at_builtin; refine app_one 23 9 16 (.string ⟨#[]⟩) Tryd.info9 rfl (by decide) Tryd.underlying23 (by rfl) _ _ (by rfl) _ (w1.heap.size + 1) X.length _ _ _ (by rfl) (own_below ST.out.1 B6.out) XL.out (by rfl) _ (by rfl) (by simp) ?hb ?_))
      case hb => have := B6.out.size; have := B5.out; omega
      intro v7 w7 hown7 hg7
      have S7 := Lib.hid (ST.out.step B6.out hown7 hg7)
      clear hown7 hg7
      go_wp2
      go_roundw
      case rel => exact ⟨k + 1, by omega, by go_num, by rw [TS.out, List.map_append, ← List.append_assoc, HX.out]; exact S7.out⟩
      case measure => simp [intOf]; omega
    · have hdk : decide ((k : Int) < (ln : Int)) = false := by simp; omega
      have Z4 := ST.out.cell w1.heap.size 4 (u := .int .i64 (shi (fm n))) (by omega) (by simp [go_sem])
      have XS := Lib.hid (show [] ++ (rs.take k).map regT = [] ++ rs.map regT by rw [List.take_of_length_le (by have := HLN.out; omega)])
      have S8 := Lib.hid (XS.out ▸ ST.out)
      have G0 := ST.out.cell w.heap.size 0 (by omega) ((World.cell?_alloc_lt _ _ ⟨w.heap.size, 0, none⟩ hz).trans Hk0.out)
      have G1 := ST.out.cell w.heap.size 1 (by omega) ((World.cell?_alloc_lt _ _ ⟨w.heap.size, 1, none⟩ hz).trans Hk1.out)
      have G2 := ST.out.cell w.heap.size 2 (by omega) ((World.cell?_alloc_lt _ _ ⟨w.heap.size, 2, none⟩ hz).trans Hk2.out)
      have G3 := ST.out.cell w.heap.size 3 (by omega) ((World.cell?_alloc_lt _ _ ⟨w.heap.size, 3, none⟩ hz).trans Hk3.out)
      have G4 := ST.out.cell w.heap.size 4 (by omega) ((World.cell?_alloc_lt _ _ ⟨w.heap.size, 4, none⟩ hz).trans Hk4.out)
      have G5 := ST.out.cell w.heap.size 5 (by omega) ((World.cell?_alloc_lt _ _ ⟨w.heap.size, 5, none⟩ hz).trans Hk5.out)
      have T5 := Lib.hid (tab_below (T1.out.alloc _) ST.out.2.2.1 (by have := T1.out.big; omega))
      have XL := Lib.hid (show ([] ++ rs.map regT).length ≤ 1000 by have := HLN.out; simp; omega)
      clear XS ST
      generalize hX : [] ++ rs.map regT = X at S8 XL OL
      clear hX
      go_wp2_with (first | (go_at_call 60; refine (val_any _ _ _ _ _ _ _ HM.out T5.out hs).mono ?_; rintro e w6 ⟨rfl, hb6⟩; have B6 := Lib.hid hb6; clear hb6) | (at_builtin; refine app_one 23 9 16 (.string ⟨#[]⟩) Tryd.info9 rfl (by decide) Tryd.underlying23 (by rfl) _ _ (by rfl) _ (w1.heap.size + 1) X.length _ _ _ (by rfl) (own_below S8.out.1 B6.out) XL.out (by rfl) _ (by rfl) (by simp) ?hb ?_))
      case hb => have := B6.out.size; have := B5.out; omega
      intro v7 w7 hown7 hg7
      have S7 := Lib.hid (S8.out.step B6.out hown7 hg7)
      clear hown7 hg7
      go_wp2
      go_ret
      exact ⟨v7, rfl, by rw [OL.out]; exact own_le S7.out.1 (by omega), (HB.out.alloc (by omega) _).trans (S7.out.2.2.1.mono (by omega))⟩
set_option maxHeartbeats 4000000 in
set_option maxRecDepth 100000 in
theorem oper_100 (n : Nat) (d a b m : Int) (s : ByteArray) (w : World) (h : n < 34) (H : Tab w) (ha : I64 a) (hb0 : I64 b) (hdd : I64 d) (hm : I64 m) (_hs : s.size ≤ 12) (cd : sd (fm n) = true) (c5 : fm n ≠ 5) (ch : shi (fm n) ≤ 0) :
    Calls Tryd.prog 45 #[.agg #[.int .i64 n, .int .i64 d, .int .i64 a, .int .i64 b, .int .i64 m, .string s]] w (StrsPost (opsL (fm n) d a b m s) w) := by
  have T := Lib.hid H
  have HD := Lib.hid hdd
  have HM := Lib.hid hm
  have RI := Lib.hid (regs_in (fm n) a b ha hb0)
  have RE := Lib.hid (regs_le (fm n) a b)
  have OL := Lib.hid (show opsL (fm n) d a b m s = [regT d] ++ (regsL (fm n) a b).map regT ++ [] by unfold opsL; rw [cd]; simp; omega)
  have R5 := Lib.hid (show regsL (fm n) a b = readsL (fm n) a b by unfold regsL; rw [if_neg c5])
  have hh : decide (0 < shi (fm n)) = false := by simp; omega
  have e5 : ((fm n : Int) == 5) = false := by rw [beq_eq_false_iff_ne]; omega
  have big := H.big
  clear H ha hb0 hdd hm c5 ch
  go_enter Tryd.func45, Tryd.ntmps45
  go_wp2_with fail
  refine (shape_any _ _ h (T.out.alloc _)).mono ?_
  rintro e w1 ⟨rfl, hb⟩
  rw [cd]
  obtain ⟨q, hz, hB⟩ := box_cells hb
  have k0 : w1.cell? ⟨w.heap.size, 0, none⟩ = some (.int .i64 n) := q 0
  have k1 : w1.cell? ⟨w.heap.size, 1, none⟩ = some (.int .i64 d) := q 1
  have k2 : w1.cell? ⟨w.heap.size, 2, none⟩ = some (.int .i64 a) := q 2
  have k3 : w1.cell? ⟨w.heap.size, 3, none⟩ = some (.int .i64 b) := q 3
  have k4 : w1.cell? ⟨w.heap.size, 4, none⟩ = some (.int .i64 m) := q 4
  have k5 : w1.cell? ⟨w.heap.size, 5, none⟩ = some (.string s) := q 5
  have T1 := Lib.hid ((T.out.alloc _).below hb)
  have HB := Lib.hid hB
  clear q hb hB cd
  generalize hbs : sa (fm n) = xa
  generalize hbs2 : sb (fm n) = xb
  generalize hbs3 : stg (fm n) = xt
  generalize hbs4 : slo (fm n) = xl
  clear hbs hbs2 hbs3 hbs4
  go_wp2_with (first | (go_at_call 58; refine (reg58 _ _ HD.out (T1.out.alloc _)).mono ?_; rintro e w2 ⟨rfl, hb2⟩; have hz2 : w1.heap.size + 1 ≤ w2.heap.size := by have := hb2.size; simpa using this) | (at_builtin; refine app_one 23 9 16 (.string ⟨#[]⟩) Tryd.info9 rfl (by decide) Tryd.underlying23 (by rfl) _ _ (by rfl) _ (w1.heap.size + 1) 0 _ _ [] (by rfl) (World.ownsRow_nil _ _ _ _) (by decide) (by rfl) _ (by rfl) (by simp) ?hb ?_))
  case hb => exact hz2
  intro v1 w3 hown hg
  have hbl := app_below (base := w1.heap.size + 1) (e := 9) (World.ownsRow_nil _ _ _ _) hg hz2
  have hbw : Below (w1.heap.size + 1) (w1.alloc (.cells #[.bool true, .bool xa, .bool xb, .int .i64 xl, .int .i64 (shi (fm n)), .bool xt] 65)) w3 := (hb2.mono (by simp)).trans hbl
  have HO := Lib.hid (show w3.ownsRow (w1.heap.size + 1) 9 1 v1 1 ([regT d].map Value.string) from hown)
  clear hown hg hbl hb2 hz2
  have HW := Lib.hid hbw
  have hz3 : w1.heap.size + 1 ≤ w3.heap.size := by have := hbw.size; simpa using this
  have hc : ∀ j u, w1.cell? ⟨w.heap.size, j, none⟩ = some u → w3.cell? ⟨w.heap.size, j, none⟩ = some u := fun j u hu => (hbw.cell (p := ⟨w.heap.size, j, none⟩) (by simp; omega)).trans ((World.cell?_alloc_lt _ _ ⟨w.heap.size, j, none⟩ hz).trans hu)
  have K0 := hc _ _ k0
  have K1 := hc _ _ k1
  have K2 := hc _ _ k2
  have K3 := hc _ _ k3
  have K4 := hc _ _ k4
  have K5 := hc _ _ k5
  have C4 := Lib.hid (show w3.cell? ⟨w1.heap.size, 4, none⟩ = some (.int .i64 (shi (fm n))) from (hbw.cell (p := ⟨w1.heap.size, 4, none⟩) (by simp)).trans (by simp [go_sem]))
  have T3 := Lib.hid (tab_below (T1.out.alloc _) hbw (by have := T1.out.big; omega))
  clear hc hbw k0 k1 k2 k3 k4 k5
  go_wp2_with fail
  refine (readsOf_any _ _ _ _ _ _ _ h T3.out).mono ?_
  rintro e w4 ⟨v2, rfl, hown2, hb4⟩
  have L4 := Lib.hid (show w4.ownsRow (w1.heap.size + 1) 9 1 v1 1 ([regT d].map Value.string) from own_below HO.out hb4)
  have M4 := Lib.hid hown2
  have HW4 := Lib.hid (HW.out.trans (hb4.mono hz3))
  have hz4 : w3.heap.size ≤ w4.heap.size := hb4.size
  have T4 := Lib.hid (T3.out.below hb4)
  have hc : ∀ j u, w3.cell? ⟨w.heap.size, j, none⟩ = some u → w4.cell? ⟨w.heap.size, j, none⟩ = some u := fun j u hu => (hb4.cell (p := ⟨w.heap.size, j, none⟩) (by simp; omega)).trans hu
  have J0 := hc _ _ K0
  have J1 := hc _ _ K1
  have J2 := hc _ _ K2
  have J3 := hc _ _ K3
  have J4 := hc _ _ K4
  have J5 := hc _ _ K5
  have C5 := Lib.hid (show w4.cell? ⟨w1.heap.size, 4, none⟩ = some (.int .i64 (shi (fm n))) from (hb4.cell (p := ⟨w1.heap.size, 4, none⟩) (by simp; omega)).trans C4.out)
  clear hc hown2 hb4 K0 K1 K2 K3 K4 K5
  obtain ⟨t1, t2, t3, t4⟩ := T4.out.ops n h
  have big4 := T4.out.big
  have i0 : (0 : Int) ≤ (n : Int) := by omega
  have i1 : (n : Int) < 34 := by omega
  clear t1 t3 t4
  have hv2 : ∃ A c, v2 = .slice A (regsL (fm n) a b).length c := by
    have hh2 := M4.out
    have he : (regsL (fm n) a b).length = (readsL (fm n) a b).length := by rw [R5.out]
    rw [he]
    rcases hh2.2 with ⟨rfl, h0⟩ | ⟨g, cap, cur, rfl, _⟩
    · exact ⟨none, 0, by rw [h0]⟩
    · exact ⟨_, _, rfl⟩
  obtain ⟨A, c, rfl⟩ := hv2
  have ST := Lib.hid (show Lst (w1.heap.size + 1) (w1.alloc (.cells #[.bool true, .bool xa, .bool xb, .int .i64 xl, .int .i64 (shi (fm n)), .bool xt] 65)) w4 v1 (.slice A (regsL (fm n) a b).length c) (regsL (fm n) a b) [regT d] from ⟨L4.out, by have hm4 := own_le M4.out hz3; rw [← R5.out] at hm4; exact hm4, HW4.out, by omega⟩)
  clear R5 L4 M4
  generalize hrs : regsL (fm n) a b = rs at *
  clear hrs
  have hlen : rs.length ≤ 2 := RE.out
  generalize hln : rs.length = ln at *
  have HLN := Lib.hid hln
  clear hln
  go_wp2_with fail
  clear HW4
  go_loopw [4, 31] (fun l i wr2 => ∃ k : Nat, k ≤ ln ∧ i = .int .i64 k ∧ Lst (w1.heap.size + 1) (w1.alloc (.cells #[.bool true, .bool xa, .bool xb, .int .i64 xl, .int .i64 (shi (fm n)), .bool xt] 65)) wr2 l (.slice A ln c) rs ([regT d] ++ (rs.take k).map regT)) (fun _ i _ => ln - (intOf i).toNat)
  case atStart => exact ⟨0, by omega, rfl, by simpa using ST.out⟩
  case round =>
    clear ST
    obtain ⟨k, hk, rfl, hst⟩ := hrel
    have ST := Lib.hid hst
    clear hst
    have B5 := Lib.hid ST.out.2.2.2
    by_cases hlt : k < ln
    · have hdk : decide ((k : Int) < (ln : Int)) = true := by simpa using hlt
      have i2 : (0 : Int) ≤ (k : Int) := by omega
      have i3 : (k : Int) < (ln : Int) := by omega
      have hkl : k < rs.length := by have := HLN.out; omega
      have hrow := ST.out.2.1
      rw [HLN.out] at hrow
      obtain ⟨g, cap, hv, _, hgl⟩ := hrow.form (by omega)
      injection hv with hv1 _ hv3
      subst hv1
      have hr := hrow.cellAt k (by omega)
      rw [List.getElem?_map, List.getElem?_eq_getElem hkl] at hr
      simp only [Option.map_some] at hr
      have IR := Lib.hid (RI.out _ (List.getElem_mem hkl))
      have TS := Lib.hid (List.take_succ_eq_append_getElem hkl)
      generalize rs[k] = r at hr IR TS
      have T5 := Lib.hid (tab_below (T1.out.alloc _) ST.out.2.2.1 (by have := T1.out.big; omega))
      clear hrow hv3 hgl hkl
      have XL := Lib.hid (show ([regT d] ++ (rs.take k).map regT).length ≤ 1000 by have := List.length_take_le k rs; simp; omega)
      generalize hX : [regT d] ++ (rs.take k).map regT = X at ST XL
      have HX := Lib.hid hX
      clear hX
      go_wp2_with (first | (go_at_call 58; refine (reg58 _ _ IR.out T5.out).mono ?_; rintro e w6 ⟨rfl, hb6⟩; have B6 := Lib.hid hb6; clear hb6) | (at_builtin; refine app_one 23 9 16 (.string ⟨#[]⟩) Tryd.info9 rfl (by decide) Tryd.underlying23 (by rfl) _ _ (by rfl) _ (w1.heap.size + 1) X.length _ _ _ (by rfl) (own_below ST.out.1 B6.out) XL.out (by rfl) _ (by rfl) (by simp) ?hb ?_))
      case hb => have := B6.out.size; have := B5.out; omega
      intro v7 w7 hown7 hg7
      have S7 := Lib.hid (ST.out.step B6.out hown7 hg7)
      clear hown7 hg7
      go_wp2
      go_roundw
      case rel => exact ⟨k + 1, by omega, by go_num, by rw [TS.out, List.map_append, ← List.append_assoc, HX.out]; exact S7.out⟩
      case measure => simp [intOf]; omega
    · have hdk : decide ((k : Int) < (ln : Int)) = false := by simp; omega
      have Z4 := ST.out.cell w1.heap.size 4 (u := .int .i64 (shi (fm n))) (by omega) (by simp [go_sem])
      have XS := Lib.hid (show [regT d] ++ (rs.take k).map regT = [regT d] ++ rs.map regT by rw [List.take_of_length_le (by have := HLN.out; omega)])
      have S8 := Lib.hid (XS.out ▸ ST.out)
      clear XS ST
      go_wp2
      go_ret
      exact ⟨_, rfl, by rw [OL.out, List.append_nil]; exact own_le S8.out.1 (by omega), (HB.out.alloc (by omega) _).trans (S8.out.2.2.1.mono (by omega))⟩
set_option maxHeartbeats 4000000 in
set_option maxRecDepth 100000 in
theorem oper_101 (n : Nat) (d a b m : Int) (s : ByteArray) (w : World) (h : n < 34) (H : Tab w) (ha : I64 a) (hb0 : I64 b) (hdd : I64 d) (hm : I64 m) (hs : s.size ≤ 12) (cd : sd (fm n) = true) (c5 : fm n ≠ 5) (ch : 0 < shi (fm n)) :
    Calls Tryd.prog 45 #[.agg #[.int .i64 n, .int .i64 d, .int .i64 a, .int .i64 b, .int .i64 m, .string s]] w (StrsPost (opsL (fm n) d a b m s) w) := by
  have T := Lib.hid H
  have HD := Lib.hid hdd
  have HM := Lib.hid hm
  have RI := Lib.hid (regs_in (fm n) a b ha hb0)
  have RE := Lib.hid (regs_le (fm n) a b)
  have OL := Lib.hid (show opsL (fm n) d a b m s = [regT d] ++ (regsL (fm n) a b).map regT ++ [valT m s] by unfold opsL; rw [cd]; simp; omega)
  have R5 := Lib.hid (show regsL (fm n) a b = readsL (fm n) a b by unfold regsL; rw [if_neg c5])
  have hh : decide (0 < shi (fm n)) = true := by simp; omega
  have e5 : ((fm n : Int) == 5) = false := by rw [beq_eq_false_iff_ne]; omega
  have big := H.big
  clear H ha hb0 hdd hm c5 ch
  go_enter Tryd.func45, Tryd.ntmps45
  go_wp2_with fail
  refine (shape_any _ _ h (T.out.alloc _)).mono ?_
  rintro e w1 ⟨rfl, hb⟩
  rw [cd]
  obtain ⟨q, hz, hB⟩ := box_cells hb
  have k0 : w1.cell? ⟨w.heap.size, 0, none⟩ = some (.int .i64 n) := q 0
  have k1 : w1.cell? ⟨w.heap.size, 1, none⟩ = some (.int .i64 d) := q 1
  have k2 : w1.cell? ⟨w.heap.size, 2, none⟩ = some (.int .i64 a) := q 2
  have k3 : w1.cell? ⟨w.heap.size, 3, none⟩ = some (.int .i64 b) := q 3
  have k4 : w1.cell? ⟨w.heap.size, 4, none⟩ = some (.int .i64 m) := q 4
  have k5 : w1.cell? ⟨w.heap.size, 5, none⟩ = some (.string s) := q 5
  have Hk0 := Lib.hid k0
  have Hk1 := Lib.hid k1
  have Hk2 := Lib.hid k2
  have Hk3 := Lib.hid k3
  have Hk4 := Lib.hid k4
  have Hk5 := Lib.hid k5
  have T1 := Lib.hid ((T.out.alloc _).below hb)
  have HB := Lib.hid hB
  clear q hb hB cd
  generalize hbs : sa (fm n) = xa
  generalize hbs2 : sb (fm n) = xb
  generalize hbs3 : stg (fm n) = xt
  generalize hbs4 : slo (fm n) = xl
  clear hbs hbs2 hbs3 hbs4
  go_wp2_with (first | (go_at_call 58; refine (reg58 _ _ HD.out (T1.out.alloc _)).mono ?_; rintro e w2 ⟨rfl, hb2⟩; have hz2 : w1.heap.size + 1 ≤ w2.heap.size := by have := hb2.size; simpa using this) | (at_builtin; refine app_one 23 9 16 (.string ⟨#[]⟩) Tryd.info9 rfl (by decide) Tryd.underlying23 (by rfl) _ _ (by rfl) _ (w1.heap.size + 1) 0 _ _ [] (by rfl) (World.ownsRow_nil _ _ _ _) (by decide) (by rfl) _ (by rfl) (by simp) ?hb ?_))
  case hb => exact hz2
  intro v1 w3 hown hg
  have hbl := app_below (base := w1.heap.size + 1) (e := 9) (World.ownsRow_nil _ _ _ _) hg hz2
  have hbw : Below (w1.heap.size + 1) (w1.alloc (.cells #[.bool true, .bool xa, .bool xb, .int .i64 xl, .int .i64 (shi (fm n)), .bool xt] 65)) w3 := (hb2.mono (by simp)).trans hbl
  have HO := Lib.hid (show w3.ownsRow (w1.heap.size + 1) 9 1 v1 1 ([regT d].map Value.string) from hown)
  clear hown hg hbl hb2 hz2
  have HW := Lib.hid hbw
  have hz3 : w1.heap.size + 1 ≤ w3.heap.size := by have := hbw.size; simpa using this
  have hc : ∀ j u, w1.cell? ⟨w.heap.size, j, none⟩ = some u → w3.cell? ⟨w.heap.size, j, none⟩ = some u := fun j u hu => (hbw.cell (p := ⟨w.heap.size, j, none⟩) (by simp; omega)).trans ((World.cell?_alloc_lt _ _ ⟨w.heap.size, j, none⟩ hz).trans hu)
  have K0 := hc _ _ k0
  have K1 := hc _ _ k1
  have K2 := hc _ _ k2
  have K3 := hc _ _ k3
  have K4 := hc _ _ k4
  have K5 := hc _ _ k5
  have C4 := Lib.hid (show w3.cell? ⟨w1.heap.size, 4, none⟩ = some (.int .i64 (shi (fm n))) from (hbw.cell (p := ⟨w1.heap.size, 4, none⟩) (by simp)).trans (by simp [go_sem]))
  have T3 := Lib.hid (tab_below (T1.out.alloc _) hbw (by have := T1.out.big; omega))
  clear hc hbw k0 k1 k2 k3 k4 k5
  go_wp2_with fail
  refine (readsOf_any _ _ _ _ _ _ _ h T3.out).mono ?_
  rintro e w4 ⟨v2, rfl, hown2, hb4⟩
  have L4 := Lib.hid (show w4.ownsRow (w1.heap.size + 1) 9 1 v1 1 ([regT d].map Value.string) from own_below HO.out hb4)
  have M4 := Lib.hid hown2
  have HW4 := Lib.hid (HW.out.trans (hb4.mono hz3))
  have hz4 : w3.heap.size ≤ w4.heap.size := hb4.size
  have T4 := Lib.hid (T3.out.below hb4)
  have hc : ∀ j u, w3.cell? ⟨w.heap.size, j, none⟩ = some u → w4.cell? ⟨w.heap.size, j, none⟩ = some u := fun j u hu => (hb4.cell (p := ⟨w.heap.size, j, none⟩) (by simp; omega)).trans hu
  have J0 := hc _ _ K0
  have J1 := hc _ _ K1
  have J2 := hc _ _ K2
  have J3 := hc _ _ K3
  have J4 := hc _ _ K4
  have J5 := hc _ _ K5
  have C5 := Lib.hid (show w4.cell? ⟨w1.heap.size, 4, none⟩ = some (.int .i64 (shi (fm n))) from (hb4.cell (p := ⟨w1.heap.size, 4, none⟩) (by simp; omega)).trans C4.out)
  clear hc hown2 hb4 K0 K1 K2 K3 K4 K5
  obtain ⟨t1, t2, t3, t4⟩ := T4.out.ops n h
  have big4 := T4.out.big
  have i0 : (0 : Int) ≤ (n : Int) := by omega
  have i1 : (n : Int) < 34 := by omega
  clear t1 t3 t4
  have hv2 : ∃ A c, v2 = .slice A (regsL (fm n) a b).length c := by
    have hh2 := M4.out
    have he : (regsL (fm n) a b).length = (readsL (fm n) a b).length := by rw [R5.out]
    rw [he]
    rcases hh2.2 with ⟨rfl, h0⟩ | ⟨g, cap, cur, rfl, _⟩
    · exact ⟨none, 0, by rw [h0]⟩
    · exact ⟨_, _, rfl⟩
  obtain ⟨A, c, rfl⟩ := hv2
  have ST := Lib.hid (show Lst (w1.heap.size + 1) (w1.alloc (.cells #[.bool true, .bool xa, .bool xb, .int .i64 xl, .int .i64 (shi (fm n)), .bool xt] 65)) w4 v1 (.slice A (regsL (fm n) a b).length c) (regsL (fm n) a b) [regT d] from ⟨L4.out, by have hm4 := own_le M4.out hz3; rw [← R5.out] at hm4; exact hm4, HW4.out, by omega⟩)
  clear R5 L4 M4
  generalize hrs : regsL (fm n) a b = rs at *
  clear hrs
  have hlen : rs.length ≤ 2 := RE.out
  generalize hln : rs.length = ln at *
  have HLN := Lib.hid hln
  clear hln
  go_wp2_with fail
  clear HW4
  go_loopw [4, 31] (fun l i wr2 => ∃ k : Nat, k ≤ ln ∧ i = .int .i64 k ∧ Lst (w1.heap.size + 1) (w1.alloc (.cells #[.bool true, .bool xa, .bool xb, .int .i64 xl, .int .i64 (shi (fm n)), .bool xt] 65)) wr2 l (.slice A ln c) rs ([regT d] ++ (rs.take k).map regT)) (fun _ i _ => ln - (intOf i).toNat)
  case atStart => exact ⟨0, by omega, rfl, by simpa using ST.out⟩
  case round =>
    clear ST
    obtain ⟨k, hk, rfl, hst⟩ := hrel
    have ST := Lib.hid hst
    clear hst
    have B5 := Lib.hid ST.out.2.2.2
    by_cases hlt : k < ln
    · have hdk : decide ((k : Int) < (ln : Int)) = true := by simpa using hlt
      have i2 : (0 : Int) ≤ (k : Int) := by omega
      have i3 : (k : Int) < (ln : Int) := by omega
      have hkl : k < rs.length := by have := HLN.out; omega
      have hrow := ST.out.2.1
      rw [HLN.out] at hrow
      obtain ⟨g, cap, hv, _, hgl⟩ := hrow.form (by omega)
      injection hv with hv1 _ hv3
      subst hv1
      have hr := hrow.cellAt k (by omega)
      rw [List.getElem?_map, List.getElem?_eq_getElem hkl] at hr
      simp only [Option.map_some] at hr
      have IR := Lib.hid (RI.out _ (List.getElem_mem hkl))
      have TS := Lib.hid (List.take_succ_eq_append_getElem hkl)
      generalize rs[k] = r at hr IR TS
      have T5 := Lib.hid (tab_below (T1.out.alloc _) ST.out.2.2.1 (by have := T1.out.big; omega))
      clear hrow hv3 hgl hkl
      have XL := Lib.hid (show ([regT d] ++ (rs.take k).map regT).length ≤ 1000 by have := List.length_take_le k rs; simp; omega)
      generalize hX : [regT d] ++ (rs.take k).map regT = X at ST XL
      have HX := Lib.hid hX
      clear hX
      go_wp2_with (first | (go_at_call 58; refine (reg58 _ _ IR.out T5.out).mono ?_; rintro e w6 ⟨rfl, hb6⟩; have B6 := Lib.hid hb6; clear hb6) | (at_builtin; refine app_one 23 9 16 (.string ⟨#[]⟩) Tryd.info9 rfl (by decide) Tryd.underlying23 (by rfl) _ _ (by rfl) _ (w1.heap.size + 1) X.length _ _ _ (by rfl) (own_below ST.out.1 B6.out) XL.out (by rfl) _ (by rfl) (by simp) ?hb ?_))
      case hb => have := B6.out.size; have := B5.out; omega
      intro v7 w7 hown7 hg7
      have S7 := Lib.hid (ST.out.step B6.out hown7 hg7)
      clear hown7 hg7
      go_wp2
      go_roundw
      case rel => exact ⟨k + 1, by omega, by go_num, by rw [TS.out, List.map_append, ← List.append_assoc, HX.out]; exact S7.out⟩
      case measure => simp [intOf]; omega
    · have hdk : decide ((k : Int) < (ln : Int)) = false := by simp; omega
      have Z4 := ST.out.cell w1.heap.size 4 (u := .int .i64 (shi (fm n))) (by omega) (by simp [go_sem])
      have XS := Lib.hid (show [regT d] ++ (rs.take k).map regT = [regT d] ++ rs.map regT by rw [List.take_of_length_le (by have := HLN.out; omega)])
      have S8 := Lib.hid (XS.out ▸ ST.out)
      have G0 := ST.out.cell w.heap.size 0 (by omega) ((World.cell?_alloc_lt _ _ ⟨w.heap.size, 0, none⟩ hz).trans Hk0.out)
      have G1 := ST.out.cell w.heap.size 1 (by omega) ((World.cell?_alloc_lt _ _ ⟨w.heap.size, 1, none⟩ hz).trans Hk1.out)
      have G2 := ST.out.cell w.heap.size 2 (by omega) ((World.cell?_alloc_lt _ _ ⟨w.heap.size, 2, none⟩ hz).trans Hk2.out)
      have G3 := ST.out.cell w.heap.size 3 (by omega) ((World.cell?_alloc_lt _ _ ⟨w.heap.size, 3, none⟩ hz).trans Hk3.out)
      have G4 := ST.out.cell w.heap.size 4 (by omega) ((World.cell?_alloc_lt _ _ ⟨w.heap.size, 4, none⟩ hz).trans Hk4.out)
      have G5 := ST.out.cell w.heap.size 5 (by omega) ((World.cell?_alloc_lt _ _ ⟨w.heap.size, 5, none⟩ hz).trans Hk5.out)
      have T5 := Lib.hid (tab_below (T1.out.alloc _) ST.out.2.2.1 (by have := T1.out.big; omega))
      have XL := Lib.hid (show ([regT d] ++ rs.map regT).length ≤ 1000 by have := HLN.out; simp; omega)
      clear XS ST
      generalize hX : [regT d] ++ rs.map regT = X at S8 XL OL
      clear hX
      go_wp2_with (first | (go_at_call 60; refine (val_any _ _ _ _ _ _ _ HM.out T5.out hs).mono ?_; rintro e w6 ⟨rfl, hb6⟩; have B6 := Lib.hid hb6; clear hb6) | (at_builtin; refine app_one 23 9 16 (.string ⟨#[]⟩) Tryd.info9 rfl (by decide) Tryd.underlying23 (by rfl) _ _ (by rfl) _ (w1.heap.size + 1) X.length _ _ _ (by rfl) (own_below S8.out.1 B6.out) XL.out (by rfl) _ (by rfl) (by simp) ?hb ?_))
      case hb => have := B6.out.size; have := B5.out; omega
      intro v7 w7 hown7 hg7
      have S7 := Lib.hid (S8.out.step B6.out hown7 hg7)
      clear hown7 hg7
      go_wp2
      go_ret
      exact ⟨v7, rfl, by rw [OL.out]; exact own_le S7.out.1 (by omega), (HB.out.alloc (by omega) _).trans (S7.out.2.2.1.mono (by omega))⟩
set_option maxHeartbeats 4000000 in
set_option maxRecDepth 100000 in
theorem oper_011 (n : Nat) (d a b m : Int) (s : ByteArray) (w : World) (h : n < 34) (H : Tab w) (ha : I64 a) (hb0 : I64 b) (hdd : I64 d) (hm : I64 m) (hs : s.size ≤ 12) (cd : sd (fm n) = false) (c5 : fm n = 5) (ch : 0 < shi (fm n)) :
    Calls Tryd.prog 45 #[.agg #[.int .i64 n, .int .i64 d, .int .i64 a, .int .i64 b, .int .i64 m, .string s]] w (StrsPost (opsL (fm n) d a b m s) w) := by
  have T := Lib.hid H
  have HD := Lib.hid hdd
  have HM := Lib.hid hm
  have RI := Lib.hid (regs_in (fm n) a b ha hb0)
  have RE := Lib.hid (regs_le (fm n) a b)
  have OL := Lib.hid (show opsL (fm n) d a b m s = [] ++ (regsL (fm n) a b).map regT ++ [valT m s] by unfold opsL; rw [cd]; simp; omega)
  have R5 := Lib.hid (show regsL (fm n) a b = (readsL (fm n) a b).reverse by unfold regsL; rw [if_pos c5])
  have hh : decide (0 < shi (fm n)) = true := by simp; omega
  have L0 := Lib.hid (show 0 < (readsL (fm n) a b).length by rw [c5]; exact Nat.zero_lt_succ _)
  have e5 : ((fm n : Int) == 5) = true := by rw [c5]; rfl
  have big := H.big
  clear H ha hb0 hdd hm c5 ch
  go_enter Tryd.func45, Tryd.ntmps45
  go_wp2_with fail
  refine (shape_any _ _ h (T.out.alloc _)).mono ?_
  rintro e w1 ⟨rfl, hb⟩
  rw [cd]
  obtain ⟨q, hz, hB⟩ := box_cells hb
  have k0 : w1.cell? ⟨w.heap.size, 0, none⟩ = some (.int .i64 n) := q 0
  have k1 : w1.cell? ⟨w.heap.size, 1, none⟩ = some (.int .i64 d) := q 1
  have k2 : w1.cell? ⟨w.heap.size, 2, none⟩ = some (.int .i64 a) := q 2
  have k3 : w1.cell? ⟨w.heap.size, 3, none⟩ = some (.int .i64 b) := q 3
  have k4 : w1.cell? ⟨w.heap.size, 4, none⟩ = some (.int .i64 m) := q 4
  have k5 : w1.cell? ⟨w.heap.size, 5, none⟩ = some (.string s) := q 5
  have Hk0 := Lib.hid k0
  have Hk1 := Lib.hid k1
  have Hk2 := Lib.hid k2
  have Hk3 := Lib.hid k3
  have Hk4 := Lib.hid k4
  have Hk5 := Lib.hid k5
  have T1 := Lib.hid ((T.out.alloc _).below hb)
  have HB := Lib.hid hB
  clear q hb hB cd
  generalize hbs : sa (fm n) = xa
  generalize hbs2 : sb (fm n) = xb
  generalize hbs3 : stg (fm n) = xt
  generalize hbs4 : slo (fm n) = xl
  clear hbs hbs2 hbs3 hbs4
  have hbw : Below (w1.heap.size + 1) (w1.alloc (.cells #[.bool false, .bool xa, .bool xb, .int .i64 xl, .int .i64 (shi (fm n)), .bool xt] 65)) (w1.alloc (.cells #[.bool false, .bool xa, .bool xb, .int .i64 xl, .int .i64 (shi (fm n)), .bool xt] 65)) := Below.refl _ _
  have HW := Lib.hid hbw
  clear hbw
  go_wp2_with fail
  refine (readsOf_any _ _ _ _ _ _ _ h (T1.out.alloc _)).mono ?_
  rintro e w4 ⟨v2, rfl, hown2, hb4⟩
  have hown3 := own_le (base' := w1.heap.size + 1) hown2 (by simp)
  have L4 := Lib.hid (show w4.ownsRow (w1.heap.size + 1) 9 1 (.slice none 0 0) 0 (([] : List ByteArray).map Value.string) from World.ownsRow_nil _ _ _ _)
  have M4 := Lib.hid hown3
  have HW4 := Lib.hid (HW.out.trans (hb4.mono (by simp)))
  have hz4 : w1.heap.size + 1 ≤ w4.heap.size := by have := hb4.size; simpa using this
  have T4 := Lib.hid ((T1.out.alloc _).below hb4)
  have hc : ∀ j u, w1.cell? ⟨w.heap.size, j, none⟩ = some u → w4.cell? ⟨w.heap.size, j, none⟩ = some u := fun j u hu => (hb4.cell (p := ⟨w.heap.size, j, none⟩) (by simp; omega)).trans ((World.cell?_alloc_lt _ _ ⟨w.heap.size, j, none⟩ hz).trans hu)
  have J0 := hc _ _ k0
  have J1 := hc _ _ k1
  have J2 := hc _ _ k2
  have J3 := hc _ _ k3
  have J4 := hc _ _ k4
  have J5 := hc _ _ k5
  have C5 := Lib.hid (show w4.cell? ⟨w1.heap.size, 4, none⟩ = some (.int .i64 (shi (fm n))) from (hb4.cell (p := ⟨w1.heap.size, 4, none⟩) (by simp)).trans (by simp [go_sem]))
  clear hc hown2 hown3 hb4 k0 k1 k2 k3 k4 k5
  obtain ⟨t1, t2, t3, t4⟩ := T4.out.ops n h
  have big4 := T4.out.big
  have i0 : (0 : Int) ≤ (n : Int) := by omega
  have i1 : (n : Int) < 34 := by omega
  clear t1 t3 t4
  have hv2 : ∃ A c, v2 = .slice A (regsL (fm n) a b).length c := by
    have hh2 := M4.out
    have he : (regsL (fm n) a b).length = (readsL (fm n) a b).length := by rw [R5.out]; simp
    rw [he]
    rcases hh2.2 with ⟨rfl, h0⟩ | ⟨g, cap, cur, rfl, _⟩
    · exact ⟨none, 0, by rw [h0]⟩
    · exact ⟨_, _, rfl⟩
  obtain ⟨A, c, rfl⟩ := hv2
  have V4 := Lib.hid (show Calls Tryd.prog 59 #[.slice A (regsL (fm n) a b).length c] w4 (RevPost (.slice A (regsL (fm n) a b).length c) (regsL (fm n) a b) (w1.heap.size + 1) w4) from by
    have hr := rev_any (readsL (fm n) a b) _ (w1.heap.size + 1) w4 M4.out L0.out (by have := readsL_le (fm n) a b; omega)
    rwa [← R5.out] at hr)
  clear R5 L4 M4
  generalize hrs : regsL (fm n) a b = rs at *
  clear hrs
  have hlen : rs.length ≤ 2 := RE.out
  generalize hln : rs.length = ln at *
  have HLN := Lib.hid hln
  clear hln
  go_wp2_with (go_at_call 59; refine V4.out.mono ?_; rintro e w5 ⟨rfl, hown5, hb5⟩)
  have ST := Lib.hid (show Lst (w1.heap.size + 1) (w1.alloc (.cells #[.bool false, .bool xa, .bool xb, .int .i64 xl, .int .i64 (shi (fm n)), .bool xt] 65)) w5 (.slice none 0 0) (.slice A ln c) rs [] from ⟨World.ownsRow_nil _ _ _ _, hown5, HW4.out.trans hb5, by have := hb5.size; omega⟩)
  clear hown5 hb5
  clear HW4
  go_loopw [4, 31] (fun l i wr2 => ∃ k : Nat, k ≤ ln ∧ i = .int .i64 k ∧ Lst (w1.heap.size + 1) (w1.alloc (.cells #[.bool false, .bool xa, .bool xb, .int .i64 xl, .int .i64 (shi (fm n)), .bool xt] 65)) wr2 l (.slice A ln c) rs ([] ++ (rs.take k).map regT)) (fun _ i _ => ln - (intOf i).toNat)
  case atStart => exact ⟨0, by omega, rfl, by simpa using ST.out⟩
  case round =>
    clear ST
    obtain ⟨k, hk, rfl, hst⟩ := hrel
    have ST := Lib.hid hst
    clear hst
    have B5 := Lib.hid ST.out.2.2.2
    by_cases hlt : k < ln
    · have hdk : decide ((k : Int) < (ln : Int)) = true := by simpa using hlt
      have i2 : (0 : Int) ≤ (k : Int) := by omega
      have i3 : (k : Int) < (ln : Int) := by omega
      have hkl : k < rs.length := by have := HLN.out; omega
      have hrow := ST.out.2.1
      rw [HLN.out] at hrow
      obtain ⟨g, cap, hv, _, hgl⟩ := hrow.form (by omega)
      injection hv with hv1 _ hv3
      subst hv1
      have hr := hrow.cellAt k (by omega)
      rw [List.getElem?_map, List.getElem?_eq_getElem hkl] at hr
      simp only [Option.map_some] at hr
      have IR := Lib.hid (RI.out _ (List.getElem_mem hkl))
      have TS := Lib.hid (List.take_succ_eq_append_getElem hkl)
      generalize rs[k] = r at hr IR TS
      have T5 := Lib.hid (tab_below (T1.out.alloc _) ST.out.2.2.1 (by have := T1.out.big; omega))
      clear hrow hv3 hgl hkl
      have XL := Lib.hid (show ([] ++ (rs.take k).map regT).length ≤ 1000 by have := List.length_take_le k rs; simp; omega)
      generalize hX : [] ++ (rs.take k).map regT = X at ST XL
      have HX := Lib.hid hX
      clear hX
      go_wp2_with (first | (go_at_call 58; refine (reg58 _ _ IR.out T5.out).mono ?_; rintro e w6 ⟨rfl, hb6⟩; have B6 := Lib.hid hb6; clear hb6) | (at_builtin; refine app_one 23 9 16 (.string ⟨#[]⟩) Tryd.info9 rfl (by decide) Tryd.underlying23 (by rfl) _ _ (by rfl) _ (w1.heap.size + 1) X.length _ _ _ (by rfl) (own_below ST.out.1 B6.out) XL.out (by rfl) _ (by rfl) (by simp) ?hb ?_))
      case hb => have := B6.out.size; have := B5.out; omega
      intro v7 w7 hown7 hg7
      have S7 := Lib.hid (ST.out.step B6.out hown7 hg7)
      clear hown7 hg7
      go_wp2
      go_roundw
      case rel => exact ⟨k + 1, by omega, by go_num, by rw [TS.out, List.map_append, ← List.append_assoc, HX.out]; exact S7.out⟩
      case measure => simp [intOf]; omega
    · have hdk : decide ((k : Int) < (ln : Int)) = false := by simp; omega
      have Z4 := ST.out.cell w1.heap.size 4 (u := .int .i64 (shi (fm n))) (by omega) (by simp [go_sem])
      have XS := Lib.hid (show [] ++ (rs.take k).map regT = [] ++ rs.map regT by rw [List.take_of_length_le (by have := HLN.out; omega)])
      have S8 := Lib.hid (XS.out ▸ ST.out)
      have G0 := ST.out.cell w.heap.size 0 (by omega) ((World.cell?_alloc_lt _ _ ⟨w.heap.size, 0, none⟩ hz).trans Hk0.out)
      have G1 := ST.out.cell w.heap.size 1 (by omega) ((World.cell?_alloc_lt _ _ ⟨w.heap.size, 1, none⟩ hz).trans Hk1.out)
      have G2 := ST.out.cell w.heap.size 2 (by omega) ((World.cell?_alloc_lt _ _ ⟨w.heap.size, 2, none⟩ hz).trans Hk2.out)
      have G3 := ST.out.cell w.heap.size 3 (by omega) ((World.cell?_alloc_lt _ _ ⟨w.heap.size, 3, none⟩ hz).trans Hk3.out)
      have G4 := ST.out.cell w.heap.size 4 (by omega) ((World.cell?_alloc_lt _ _ ⟨w.heap.size, 4, none⟩ hz).trans Hk4.out)
      have G5 := ST.out.cell w.heap.size 5 (by omega) ((World.cell?_alloc_lt _ _ ⟨w.heap.size, 5, none⟩ hz).trans Hk5.out)
      have T5 := Lib.hid (tab_below (T1.out.alloc _) ST.out.2.2.1 (by have := T1.out.big; omega))
      have XL := Lib.hid (show ([] ++ rs.map regT).length ≤ 1000 by have := HLN.out; simp; omega)
      clear XS ST
      generalize hX : [] ++ rs.map regT = X at S8 XL OL
      clear hX
      go_wp2_with (first | (go_at_call 60; refine (val_any _ _ _ _ _ _ _ HM.out T5.out hs).mono ?_; rintro e w6 ⟨rfl, hb6⟩; have B6 := Lib.hid hb6; clear hb6) | (at_builtin; refine app_one 23 9 16 (.string ⟨#[]⟩) Tryd.info9 rfl (by decide) Tryd.underlying23 (by rfl) _ _ (by rfl) _ (w1.heap.size + 1) X.length _ _ _ (by rfl) (own_below S8.out.1 B6.out) XL.out (by rfl) _ (by rfl) (by simp) ?hb ?_))
      case hb => have := B6.out.size; have := B5.out; omega
      intro v7 w7 hown7 hg7
      have S7 := Lib.hid (S8.out.step B6.out hown7 hg7)
      clear hown7 hg7
      go_wp2
      go_ret
      exact ⟨v7, rfl, by rw [OL.out]; exact own_le S7.out.1 (by omega), (HB.out.alloc (by omega) _).trans (S7.out.2.2.1.mono (by omega))⟩

theorem form_parts : ∀ f : Fin 10, (f.1 = 5 → sd f.1 = false ∧ 0 < shi f.1) := by decide
theorem oper_any (n : Nat) (d a b m : Int) (s : ByteArray) (w : World) (h : n < 34) (H : Tab w) (ha : I64 a) (hb : I64 b) (hd : I64 d) (hm : I64 m) (hs : s.size ≤ 12) : Calls Tryd.prog 45 #[.agg #[.int .i64 n, .int .i64 d, .int .i64 a, .int .i64 b, .int .i64 m, .string s]] w (StrsPost (opsL (fm n) d a b m s) w) := by
  by_cases c5 : fm n = 5
  · obtain ⟨cd, ch⟩ := form_parts ⟨fm n, fm_lt h⟩ c5
    exact oper_011 n d a b m s w h H ha hb hd hm hs cd c5 ch
  · by_cases ch : 0 < shi (fm n)
    · cases cd : sd (fm n)
      · exact oper_001 n d a b m s w h H ha hb hd hm hs cd c5 ch
      · exact oper_101 n d a b m s w h H ha hb hd hm hs cd c5 ch
    · cases cd : sd (fm n)
      · exact oper_000 n d a b m s w h H ha hb hd hm hs cd c5 (by omega)
      · exact oper_100 n d a b m s w h H ha hb hd hm hs cd c5 (by omega)
end Go.Proofs.YtgaoelpgdianiaaDoor
