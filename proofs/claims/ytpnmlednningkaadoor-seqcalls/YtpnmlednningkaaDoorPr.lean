/-
  Contracts of the calls by which both machines tell whether a program may be. Conditions: the row reads as a list of instructions, nil or not; the tables lie in the world.
-/
import Derived.Test.YtpnmlednningkaaDoorCk
import Derived.Test.YtpnmlednningkaaDoorPrg
import Derived.Deep.LoopGhost
namespace Go.Proofs.YtpnmlednningkaaDoor
open Go.RowKit

/-- An instruction, whatever it holds. -/
structure In6 where
  o : Int
  d : Int
  a : Int
  b : Int
  m : Int
  s : ByteArray
def In6.cells (x : In6) : Array Value := #[.int .i64 x.o, .int .i64 x.d, .int .i64 x.a, .int .i64 x.b, .int .i64 x.m, .string x.s]
def iB (x : In6) : Bool := decide (0 ≤ x.o) && decide (x.o < 34) && insB x.o.toNat x.d x.a x.b x.m x.s
/-- May it stand in a program? -/
def pB (x : In6) : Bool := decide (x.s.size = 0) && iB x
def pgB (xs : List In6) : Bool := decide (xs.length ≤ 1024) && xs.all pB
theorem ins_raw (x : In6) (b : Bool) (w : World) (hs : x.s.size ≤ maxLen) (hb : iB x = b) : Calls Tryd.prog 51 #[.agg #[.int .i64 x.o, .int .i64 x.d, .int .i64 x.a, .int .i64 x.b, .int .i64 x.m, .string x.s]] w (BoolBelow b w) := by
  subst hb
  unfold iB
  by_cases h1 : 0 ≤ x.o ∧ x.o < 34
  · obtain ⟨n, hn⟩ : ∃ n : Nat, x.o = n := ⟨x.o.toNat, by omega⟩
    rw [hn]
    have := ins_any n x.d x.a x.b x.m x.s w (by omega) hs
    simpa [show (n : Int) < 34 by omega] using this
  · have h2 : (decide (0 ≤ x.o) && decide (x.o < 34)) = false := by simp; omega
    rw [h2]
    exact ins_no _ _ _ _ _ _ _ (by omega)
theorem chk_raw (x : In6) (b : Bool) (w : World) (T : Tab w) (hs : x.s.size ≤ maxLen) (hb : iB x = b) : Calls Tryd.prog 55 #[.agg #[.int .i64 x.o, .int .i64 x.d, .int .i64 x.a, .int .i64 x.b, .int .i64 x.m, .string x.s]] w (IntBelow (cond b 0 1) w) := by
  subst hb
  unfold iB
  by_cases h1 : 0 ≤ x.o ∧ x.o < 34
  · obtain ⟨n, hn⟩ : ∃ n : Nat, x.o = n := ⟨x.o.toNat, by omega⟩
    rw [hn]
    have := check_any n x.d x.a x.b x.m x.s w (by omega) T hs
    rw [chk_ins _ _ _ _ _ _ (by omega)] at this
    have e : (decide ((0 : Int) ≤ n) && decide ((n : Int) < 34)) = true := by simp; omega
    rw [e, Bool.true_and, show (n : Int).toNat = n by omega]
    cases hz : insB n x.d x.a x.b x.m x.s
    · simpa [hz] using this
    · simpa [hz] using this
  · have h2 : (decide (0 ≤ x.o) && decide (x.o < 34)) = false := by simp; omega
    rw [h2]
    exact check_no _ _ _ _ _ _ _ (by omega)
/-- It lies at a place of a row. -/
def InAt6 (w : World) (ad : Addr) (i : Nat) (x : In6) : Prop := ∀ j u, x.cells[j]? = some u → w.cell? (ad.add (i * 6 + j)) = some u
theorem InAt6.k {w : World} {ad : Addr} {i : Nat} {x : In6} (h : InAt6 w ad i x) :
    w.cell? (ad.add (i * 6)) = some (.int .i64 x.o) ∧ w.cell? ⟨(ad.add (i * 6)).block, (ad.add (i * 6)).off + 1, none⟩ = some (.int .i64 x.d) ∧ w.cell? ⟨(ad.add (i * 6)).block, (ad.add (i * 6)).off + 2, none⟩ = some (.int .i64 x.a) ∧ w.cell? ⟨(ad.add (i * 6)).block, (ad.add (i * 6)).off + 3, none⟩ = some (.int .i64 x.b) ∧ w.cell? ⟨(ad.add (i * 6)).block, (ad.add (i * 6)).off + 4, none⟩ = some (.int .i64 x.m) ∧ w.cell? ⟨(ad.add (i * 6)).block, (ad.add (i * 6)).off + 5, none⟩ = some (.string x.s) := by
  have h1 := h 1 _ rfl
  have h2 := h 2 _ rfl
  have h3 := h 3 _ rfl
  have h4 := h 4 _ rfl
  have h5 := h 5 _ rfl
  rw [← Go.Deep.add_add, add_pos _ _ (by decide)] at h1 h2 h3 h4 h5
  exact ⟨h 0 _ rfl, h1, h2, h3, h4, h5⟩
theorem InAt6.keep {w w' : World} {B : Nat} {ad : Addr} {i : Nat} {x : In6} (h : InAt6 w ad i x) (hb : Below B w w') (hl : ad.block < B) : InAt6 w' ad i x := fun j u hu => (hb.cell (by rw [block_add]; exact hl)).trans (h j u hu)
/-- A slice that reads as a list of instructions, nil or not. -/
def RdI (w : World) (v : Value) (xs : List In6) : Prop :=
  ∃ A c, v = .slice A xs.length c ∧ (0 < xs.length → ∃ ad : Addr, A = some ad ∧ ad.block < w.heap.size ∧ ∀ i x, xs[i]? = some x → InAt6 w ad i x)
theorem RdI.keep {w w' : World} {v : Value} {xs : List In6} (h : RdI w v xs) (hb : Below w.heap.size w w') : RdI w' v xs := by
  obtain ⟨A, c, hv, hr⟩ := h
  refine ⟨A, c, hv, fun h0 => ?_⟩
  obtain ⟨ad, ha, hl, hx⟩ := hr h0
  exact ⟨ad, ha, by have := hb.size; omega, fun i x hi => (hx i x hi).keep hb hl⟩
def szs (xs : List In6) : Prop := ∀ x ∈ xs, x.s.size ≤ maxLen
theorem all_take {xs : List In6} {i : Nat} (hi : i < xs.length) {b : Bool} (hb : pB xs[i] = b) (h : (xs.take i).all pB = true) : (xs.take (i + 1)).all pB = b := by
  rw [List.take_succ_eq_append_getElem hi, List.all_append, h]
  simp [hb]
theorem all_bad {xs : List In6} {i : Nat} (h : (xs.take i).all pB = false) : xs.all pB = false := by
  cases ha : xs.all pB
  · rfl
  · rw [List.all_eq_true.2 fun x hx => List.all_eq_true.1 ha x (List.mem_of_mem_take hx)] at h; cases h
theorem pgB_bad {xs : List In6} (h : xs.all pB = false) : pgB xs = false := by unfold pgB; rw [h]; simp
theorem pgB_ok {xs : List In6} (hn : xs.length ≤ 1024) : pgB xs = xs.all pB := by unfold pgB; simp [hn]
theorem pB_empty {x : In6} (h : x.s.size = 0) : pB x = iB x := by unfold pB; simp [h]
theorem pB_ne {x : In6} (h : ¬ x.s.size = 0) : pB x = false := by unfold pB; simp [h]
set_option maxRecDepth 20000 in
set_option maxHeartbeats 2000000 in
theorem isProgram_any (xs : List In6) (v : Value) (w : World) (h : RdI w v xs) (hs : szs xs) (T : Tab w) : Calls Tryd.prog 44 #[v] w (BoolBelow (pgB xs) w) := by
  obtain ⟨A, c, rfl, hr⟩ := h
  have R := Lib.hid hr
  have S := Lib.hid hs
  generalize hn : xs.length = n at *
  have HN := Lib.hid hn
  clear hr hs hn
  have TT := Lib.hid T
  have tb := T.big
  clear T
  by_cases hn : n ≤ 1024
  rotate_left
  · have t0 : decide (1024 < (n : Int)) = true := by simp; omega
    have E := Lib.hid (show pgB xs = false by unfold pgB; simp [HN.out]; omega)
    clear hn
    go_enter Tryd.func44, Tryd.ntmps44
    go_wp2
    go_ret
    exact boolb_mk (by rw [E.out]) (Below.refl _ _)
  have t0 : decide (1024 < (n : Int)) = false := by simp; omega
  have E := Lib.hid (pgB_ok (by rw [HN.out]; exact hn))
  go_enter Tryd.func44, Tryd.ntmps44
  go_wp2_with fail
  go_loopg [10] n (fun gk o wr2 => ∃ i : Nat, i ≤ n ∧ gk = n - i ∧ o = .int .i64 i ∧ Below w.heap.size w wr2 ∧ (xs.take i).all pB = true)
  case atStart => exact ⟨0, by omega, rfl, rfl, Below.refl _ _, rfl⟩
  case round =>
    obtain ⟨i, hi, rfl, rfl, hb, hp⟩ := hrel
    have HP := Lib.hid hp
    have HB := Lib.hid hb
    clear hp hb
    by_cases hlt : i < n
    · skip
      have hd : decide ((i : Int) < (n : Int)) = true := by simpa using hlt
      have i0 : (0 : Int) ≤ (i : Int) := by omega
      have i1 : (i : Int) < (n : Int) := by omega
      obtain ⟨ad, rfl, hg, q⟩ := R.out (by omega)
      have hil : i < xs.length := by have := HN.out; omega
      obtain ⟨k0, k1, k2, k3, k4, k5⟩ := ((q i _ (List.getElem?_eq_getElem hil)).keep HB.out hg).k
      have hgw : (ad.add (i * 6)).block < wr.heap.size := by rw [block_add]; have := HB.out.size; omega
      have SZ := Lib.hid (S.out xs[i] (List.getElem_mem hil))
      have AT := Lib.hid (fun b (hb : pB xs[i] = b) => all_take hil hb HP.out)
      generalize xs[i] = x at k0 k1 k2 k3 k4 k5 SZ AT
      clear q hg hil
      have WB := Lib.hid (fun o => HB.out.alloc (B := w.heap.size) HB.out.size o)
      have HS := Lib.hid HB.out.size
      obtain ⟨xo, xd, xa, xb, xm, s⟩ := x
      simp only at k0 k1 k2 k3 k4 k5
      by_cases hz : s.size = 0
      · obtain rfl := empty_of hz
        cases hc : iB ⟨xo, xd, xa, xb, xm, ⟨#[]⟩⟩
        · have C := Lib.hid (fun W (T : Tab W) => chk_raw ⟨xo, xd, xa, xb, xm, ⟨#[]⟩⟩ false W T SZ.out hc)
          have PB := Lib.hid (AT.out false (by rw [pB_empty rfl, hc]))
          clear hc hz
          go_wp2_with (go_at_call 55; refine (C.out _ (tab_below TT.out (WB.out _) (by have := TT.out.big; omega))).mono ?_; rintro e w' ⟨rfl, hbw⟩)
          go_ret
          exact boolb_mk (by rw [E.out, all_bad PB.out]) ((WB.out _).trans (hbw.mono (by have := HS.out; simp; omega)))
        · have C := Lib.hid (fun W (T : Tab W) => chk_raw ⟨xo, xd, xa, xb, xm, ⟨#[]⟩⟩ true W T SZ.out hc)
          have PB := Lib.hid (AT.out true (by rw [pB_empty rfl, hc]))
          clear hc hz
          go_wp2_with (go_at_call 55; refine (C.out _ (tab_below TT.out (WB.out _) (by have := TT.out.big; omega))).mono ?_; rintro e w' ⟨rfl, hbw⟩; have GW := Lib.hid ((WB.out _).trans (hbw.mono (by have := HS.out; simp; omega))); clear hbw)
          go_roundg (n - (i + 1))
          case measure => omega
          case rel => exact ⟨i + 1, by omega, rfl, by go_num, GW.out, PB.out⟩
      · have hp : 0 < s.size := by omega
        have hn1 := toList_ne hp
        have hn2 := isEmpty_ne hp
        have PB := Lib.hid (AT.out false (pB_ne hz))
        clear hz hp
        go_wp2_with fail
        go_ret
        exact boolb_mk (by rw [E.out, all_bad PB.out]) (WB.out _)
    · have hd : decide ((i : Int) < (n : Int)) = false := by simp; omega
      go_wp2_with fail
      go_ret
      have h1 := HP.out
      rw [List.take_of_length_le (by have := HN.out; omega)] at h1
      exact boolb_mk (by rw [E.out, h1]) HB.out
set_option maxRecDepth 20000 in
set_option maxHeartbeats 2000000 in
theorem program_pg (xs : List In6) (v : Value) (w : World) (h : RdI w v xs) (hs : szs xs) : Calls Tryd.prog 47 #[v] w (BoolBelow (pgB xs) w) := by
  obtain ⟨A, c, rfl, hr⟩ := h
  have R := Lib.hid hr
  have S := Lib.hid hs
  generalize hn : xs.length = n at *
  have HN := Lib.hid hn
  clear hr hs hn
  have nn0 : (0 : Int) ≤ (n : Int) := by omega
  go_enter Tryd.func47, Tryd.ntmps47
  go_wp2_with fail
  go_loopg [3] n (fun gk o wr2 => ∃ i : Nat, i ≤ n ∧ i ≤ 1025 ∧ gk = n - i ∧ o = .int .i64 i ∧ Below w.heap.size w wr2 ∧ (xs.take i).all pB = true)
  case atStart => exact ⟨0, by omega, by omega, rfl, rfl, Below.refl _ _, rfl⟩
  case round =>
    obtain ⟨i, hi, hi2, rfl, rfl, hb, hp⟩ := hrel
    have HP := Lib.hid hp
    have HB := Lib.hid hb
    clear hp hb
    by_cases hlt : i < n ∧ i ≤ 1024
    · obtain ⟨hlt, hle⟩ := hlt
      have hd2 : decide ((i : Int) ≤ 1024) = true := by simp; omega
      have hd : decide ((i : Int) < (n : Int)) = true := by simpa using hlt
      have i0 : (0 : Int) ≤ (i : Int) := by omega
      have i1 : (i : Int) < (n : Int) := by omega
      obtain ⟨ad, rfl, hg, q⟩ := R.out (by omega)
      have hil : i < xs.length := by have := HN.out; omega
      obtain ⟨k0, k1, k2, k3, k4, k5⟩ := ((q i _ (List.getElem?_eq_getElem hil)).keep HB.out hg).k
      have hgw : (ad.add (i * 6)).block < wr.heap.size := by rw [block_add]; have := HB.out.size; omega
      have SZ := Lib.hid (S.out xs[i] (List.getElem_mem hil))
      have AT := Lib.hid (fun b (hb : pB xs[i] = b) => all_take hil hb HP.out)
      generalize xs[i] = x at k0 k1 k2 k3 k4 k5 SZ AT
      clear q hg hil
      have HS := Lib.hid HB.out.size
      obtain ⟨xo, xd, xa, xb, xm, s⟩ := x
      simp only at k0 k1 k2 k3 k4 k5
      cases hc : iB ⟨xo, xd, xa, xb, xm, s⟩
      · have C := Lib.hid (fun W => ins_raw ⟨xo, xd, xa, xb, xm, s⟩ false W SZ.out hc)
        have PB := Lib.hid (AT.out false (by unfold pB; rw [hc]; simp))
        clear hc
        go_wp2_with (go_at_call 51; refine (C.out _).mono ?_; rintro e w' ⟨rfl, hbw⟩)
        go_ret
        exact boolb_mk (by rw [pgB_bad (all_bad PB.out)]) (HB.out.trans (hbw.mono HS.out))
      · have C := Lib.hid (fun W => ins_raw ⟨xo, xd, xa, xb, xm, s⟩ true W SZ.out hc)
        by_cases hz : s.size = 0
        · have PB := Lib.hid (AT.out true (by rw [pB_empty (by exact hz), hc]))
          obtain rfl := empty_of hz
          clear hc hz
          go_wp2_with fail
          refine (C.out _).mono ?_
          rintro e w' ⟨rfl, hbw⟩
          have k5' := (hbw.cell (p := ⟨(ad.add (i * 6)).block, (ad.add (i * 6)).off + 5, none⟩) hgw).trans k5
          have GW := Lib.hid (HB.out.trans (hbw.mono HS.out))
          clear hbw k0 k1 k2 k3 k4 k5 hgw
          go_wp2_with fail
          go_roundg (n - (i + 1))
          case measure => omega
          case rel => exact ⟨i + 1, by omega, by omega, rfl, by go_num, GW.out, PB.out⟩
        · have hp : 0 < s.size := by omega
          have hn1 := toList_ne hp
          have hn2 := isEmpty_ne hp
          have PB := Lib.hid (AT.out false (pB_ne hz))
          clear hc hz hp
          go_wp2_with fail
          refine (C.out _).mono ?_
          rintro e w' ⟨rfl, hbw⟩
          have k5' := (hbw.cell (p := ⟨(ad.add (i * 6)).block, (ad.add (i * 6)).off + 5, none⟩) hgw).trans k5
          have GW := Lib.hid (HB.out.trans (hbw.mono HS.out))
          clear hbw k0 k1 k2 k3 k4 k5 hgw
          go_wp2_with fail
          go_ret
          exact boolb_mk (by rw [pgB_bad (all_bad PB.out)]) GW.out
    · by_cases hn : n ≤ 1024
      · have t0 : decide ((n : Int) ≤ 1024) = true := by simp; omega
        have hi3 : ¬ i < n := by omega
        have hd : decide ((i : Int) < (n : Int)) = false := by simp; omega
        have h1 := HP.out
        rw [List.take_of_length_le (by have := HN.out; omega)] at h1
        have E := Lib.hid (show pgB xs = true by rw [pgB_ok (by rw [HN.out]; exact hn), h1])
        clear h1 hlt hn
        go_wp2_with fail
        go_ret
        exact boolb_mk (by rw [E.out]) HB.out
      · have t0 : decide ((n : Int) ≤ 1024) = false := by simp; omega
        have E := Lib.hid (show pgB xs = false by unfold pgB; simp [HN.out]; omega)
        by_cases hi3 : i < n
        · have hd : decide ((i : Int) < (n : Int)) = true := by simpa using hi3
          have hd2 : decide ((i : Int) ≤ 1024) = false := by simp; omega
          clear hlt hn
          go_wp2_with fail
          go_ret
          exact boolb_mk (by rw [E.out]) HB.out
        · have hd : decide ((i : Int) < (n : Int)) = false := by simp; omega
          clear hlt hn
          go_wp2_with fail
          go_ret
          exact boolb_mk (by rw [E.out]) HB.out
theorem isProgram_is (xs : List In6) (v : Value) (b : Bool) (w : World) (h : RdI w v xs) (hs : szs xs) (T : Tab w) (hb : pgB xs = b) : Calls Tryd.prog 44 #[v] w (BoolBelow b w) := by subst hb; exact isProgram_any xs v w h hs T
theorem program_is (xs : List In6) (v : Value) (b : Bool) (w : World) (h : RdI w v xs) (hs : szs xs) (hb : pgB xs = b) : Calls Tryd.prog 47 #[v] w (BoolBelow b w) := by subst hb; exact program_pg xs v w h hs
end Go.Proofs.YtpnmlednningkaaDoor
