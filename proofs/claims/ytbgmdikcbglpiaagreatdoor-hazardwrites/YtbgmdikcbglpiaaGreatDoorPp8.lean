/-
  Contract of package pipe's call land: what flies comes nearer, or is written. Conditions: the state lies behind the pointer, and may be; what flies is of registers below 16.
-/
import Derived.Test.YtbgmdikcbglpiaaGreatDoorPp7
namespace Go.Proofs.YtbgmdikcbglpiaaGreatDoor
open Go.RowKit

def StepP (B p : Nat) (m' : M) (w : World) (e : Ending) (w' : World) : Prop := e = .returned (.tuple #[]) ∧ Goes B w p m' w'
section
variable {l : List Fl} {i : Nat}
theorem land1_app (R : List Int) (a : List Fl) (f : Fl) : land1 R (a ++ [f]) = if f.k = 0 then (land1 R a).set f.r f.v else land1 R a := by unfold land1; rw [List.foldl_append]; rfl
theorem later_app (a : List Fl) (f : Fl) : later (a ++ [f]) = if f.k = 0 then later a else later a ++ [⟨f.r, f.v, f.k - 1⟩] := by
  unfold later
  by_cases h : f.k = 0 <;> simp [h]
theorem take_succ_fl (hi : i < l.length) : l.take (i + 1) = l.take i ++ [l[i]] := List.take_succ_eq_append_getElem hi
/-- What the loop keeps. -/
structure LandR (B p g n : Nat) (m : M) (V : Vs) (w : World) (i kk : Nat) (X : List Fl) (wr : World) : Prop where
  hX : X.length = n
  tk : X.take kk = later (m.fl.take i)
  dr : X.drop i = m.fl.drop i
  le : kk ≤ i
  sa : SA B wr p { m with R := land1 m.R (m.fl.take i), fl := X } V
  be : Below B w wr
variable {B p g n kk : Nat} {m : M} {V : Vs} {w wr wr' : World} {X : List Fl}
theorem LandR.klen (h : LandR B p g n m V w i kk X wr) (hi : i ≤ n) : (later (m.fl.take i)).length = kk := by
  rw [← h.tk, List.length_take, h.hX]
  have := h.le
  omega
theorem LandR.get (h : LandR B p g n m V w i kk X wr) : X[i]? = m.fl[i]? := by
  have := congrArg (·[0]?) h.dr
  simpa [List.getElem?_drop] using this
theorem LandR.own (h : LandR B p g n m V w i kk X wr) (hA : V.af = some ⟨g, 0, none⟩) : wr.ownsRow B 71 3 (.slice (some ⟨g, 0, none⟩) n V.cf) n (flat3 X) := by
  have := h.sa.hf
  unfold Vs.f at this
  simp only at this
  rw [h.hX, hA] at this
  exact this
/-- One that has landed. -/
theorem LandR.hit (h : LandR B p g n m V w i kk X wr) (hn : m.fl.length = n) (hi : i < n) (f : Fl) (hf : m.fl[i]? = some f) (hk : f.k = 0) {W : World} (hS : SA B W p { m with R := land1 m.R (m.fl.take i), fl := X } V) (hB : Below B w W) : LandR B p g n m V w (i + 1) kk X (W.setCell ⟨V.gr, f.r, none⟩ (.int .u32 f.v)).drew := by
  have hil : i < m.fl.length := by omega
  have e : m.fl[i] = f := by rw [List.getElem?_eq_getElem hil] at hf; exact Option.some.inj hf
  have ht := take_succ_fl hil
  rw [e] at ht
  refine ⟨h.hX, ?_, ?_, by have := h.le; omega, ?_, ?_⟩
  · rw [ht, later_app, if_pos hk]; exact h.tk
  · have := congrArg (List.drop 1) h.dr
    simpa [List.drop_drop, Nat.add_comm] using this
  · rw [ht, land1_app, if_pos hk]
    exact (hS.setR f.r f.v).drew
  · exact (hB.setCell (by exact h.sa.gr_lt.1) _).drew
/-- One that flies on. -/
theorem LandR.miss (h : LandR B p g n m V w i kk X wr) (hn : m.fl.length = n) (hi : i < n) (f : Fl) (hf : m.fl[i]? = some f) (hk : f.k ≠ 0) {W : World} (hS : SA B W p { m with R := land1 m.R (m.fl.take i), fl := X } V) (hB : Below B w W) (hg : W.grownBy wr' (ob V.af)) (hr : wr'.ownsRow B 71 3 (.slice V.af n V.cf) n (flat3 (X.set kk ⟨f.r, f.v, f.k - 1⟩))) : LandR B p g n m V w (i + 1) (kk + 1) (X.set kk ⟨f.r, f.v, f.k - 1⟩) wr' := by
  have hil : i < m.fl.length := by omega
  have e : m.fl[i] = f := by rw [List.getElem?_eq_getElem hil] at hf; exact Option.some.inj hf
  have ht := take_succ_fl hil
  rw [e] at ht
  have hle := h.le
  have hXl := h.hX
  refine ⟨by rw [List.length_set]; exact h.hX, ?_, ?_, by omega, ?_, ?_⟩
  · rw [ht, later_app, if_neg hk, ← h.tk, List.take_succ_eq_append_getElem (by rw [List.length_set]; omega), List.take_set_of_le (Nat.le_refl _)]
    simp
  · rw [List.drop_set_of_lt (by omega)]
    have := congrArg (List.drop 1) h.dr
    simpa [List.drop_drop, Nat.add_comm] using this
  · rw [ht, land1_app, if_neg hk]
    have := hS.putF (X := X.set kk ⟨f.r, f.v, f.k - 1⟩) (by simp only; rw [List.length_set]) hg (by
      unfold Vs.f
      simp only
      rw [hXl]
      exact hr)
    exact this
  · exact hB.grown hg (by have := hS.B_le; exact this) (fun k hk' => (hS.hf.lt k (by rw [own_ob]; exact hk')).1)
/-- At the end. -/
theorem LandR.fin (h : LandR B p g n m V w n kk X wr) (hn : m.fl.length = n) : Goes B w p (land m) (wr.setCell ⟨p, 8, none⟩ (.slice V.af kk V.cf)) := by
  have hk : kk ≤ X.length := by rw [h.hX]; exact h.le
  have h1 := h.sa.cutF (k := kk) hk
  simp only at h1
  rw [h.tk, ← hn, List.take_of_length_le (Nat.le_refl _)] at h1
  exact ⟨⟨V, h1⟩, h.be.setCell (by exact h.sa.hp) _⟩
end
set_option maxRecDepth 20000 in
set_option maxHeartbeats 2000000 in
theorem land_some (B p g : Nat) (m : M) (V : Vs) (w : World) (h : SA B w p m V) (k : Ok m) (hA : V.af = some ⟨g, 0, none⟩) : Calls Tryz.prog 70 #[.pointer (some ⟨p, 0, none⟩)] w (StepP B p (land m) w) := by
  have d8 : w.cell? ⟨p, 8, none⟩ = some (.slice V.af m.fl.length V.cf) := h.cell 8
  obtain ⟨hc1, hc2⟩ := h.capsF
  have hfl := k.fl
  have hpl := h.lt
  have HA := Lib.hid hA
  have WF := Lib.hid k.wF
  have WR := Lib.hid k.R
  have WRR := Lib.hid k.wR
  rw [hA] at d8
  generalize hn : m.fl.length = n at *
  have HN := Lib.hid hn
  have START := Lib.hid (show LandR B p g n m V w 0 0 m.fl w from ⟨hn, rfl, rfl, Nat.le_refl _, h, Below.refl _ _⟩)
  clear h k hA hn
  go_enter Tryz.func70, Tryz.ntmps70
  go_wp2_with fail
  go_loopg [2, 15] n (fun gk l o wr2 => ∃ (i kk : Nat) (X : List Fl), i ≤ n ∧ gk = n - i ∧ o = .int .i64 i ∧ l = .slice (some ⟨g, 0, none⟩) kk V.cf ∧ LandR B p g n m V w i kk X wr2)
  case atStart => exact ⟨0, 0, m.fl, by omega, rfl, rfl, rfl, START.out⟩
  case round =>
    obtain ⟨i, kk, X, hi, rfl, rfl, rfl, hR⟩ := hrel
    have RR := Lib.hid hR
    have SS := Lib.hid hR.sa
    clear hR
    by_cases hlt : i < n
    · have hd : decide ((i : Int) < (n : Int)) = true := by simpa using hlt
      have i0 : (0 : Int) ≤ (i : Int) := by omega
      have i1 : (i : Int) < (n : Int) := by omega
      have hkk : kk ≤ i := RR.out.le
      obtain ⟨f, hf⟩ : ∃ f, m.fl[i]? = some f := ⟨_, List.getElem?_eq_getElem (by rw [HN.out]; exact hlt)⟩
      have hXi := RR.out.get.trans hf
      have FF := Lib.hid hf
      obtain ⟨hfr, hfv0, hfv1, hfk⟩ := WF.out f (List.mem_of_getElem? hf)
      obtain ⟨g', hg', hgl, y0, y1, y2⟩ := SS.out.flyAt (i := i) (by simp only; rw [RR.out.hX]; exact hlt)
      simp only at y0 y1 y2
      have hXe : X[i]'(by rw [RR.out.hX]; exact hlt) = f := by rw [List.getElem?_eq_getElem (by rw [RR.out.hX]; exact hlt)] at hXi; exact Option.some.inj hXi
      rw [hXe] at y0 y1 y2
      rw [HA.out] at hg'
      obtain rfl : g = g' := by simpa using hg'
      clear hg' hXe hXi hf
      have d0 : wr.cell? ⟨p, 0, none⟩ = some (.slice (some ⟨V.gr, 0, none⟩) 16 V.cr) := SS.out.cell 0
      have hpw := SS.out.lt
      have hgrl := SS.out.gr_lt.2
      have j0 : (0 : Int) ≤ (f.r : Int) := by omega
      have j1 : (f.r : Int) < 16 := by omega
      have rf := SS.out.regF f.r
      have rd : wr.cell? ⟨V.gr, f.r, none⟩ = some (.int .u32 ((land1 m.R (m.fl.take i)).getD f.r 0)) := (SS.out.hr.cellAt f.r (by omega)).trans (map_at (by rw [land1_len, WR.out]; exact hfr))
      by_cases hz : f.k = 0
      · have hz2 : ((f.k : Int) == 0) = true := by simp; omega
        have HZ := Lib.hid hz
        clear hz hfk
        go_wp2_with fail
        generalize hW : wr.alloc (.cells #[.int .i64 f.r, .int .u32 f.v, .int .i64 f.k] 71) = W
        have HB0 := Lib.hid (show W.heap[wr.heap.size]? = some (.cells #[.int .i64 f.r, .int .u32 f.v, .int .i64 f.k] 71 (0, 0)) by rw [← hW]; exact heap_alloc_new wr _)
        have q0 : W.cell? ⟨wr.heap.size, 0, none⟩ = some (.int .i64 f.r) := cell_of_row _ _ 0 _ _ _ HB0.out
        have q1 : W.cell? ⟨wr.heap.size, 1, none⟩ = some (.int .u32 f.v) := cell_of_row _ _ 1 _ _ _ HB0.out
        have SW := Lib.hid (show SA B W p { m with R := land1 m.R (m.fl.take i), fl := X } V by rw [← hW]; exact SS.out.alloc _)
        have HIT := Lib.hid (RR.out.hit HN.out hlt f FF.out HZ.out SW.out (show Below B w W by rw [← hW]; exact RR.out.be.alloc SS.out.B_le _))
        have hzl : wr.heap.size < W.heap.size := lt_of_heap HB0.out
        have hpl2 : p < W.heap.size := SW.out.lt
        have hgl2 : V.gr < W.heap.size := SW.out.gr_lt.2
        have e0 : W.cell? ⟨p, 0, none⟩ = some (.slice (some ⟨V.gr, 0, none⟩) 16 V.cr) := SW.out.cell 0
        have rf2 := SW.out.regF f.r
        have rd2 : W.cell? ⟨V.gr, f.r, none⟩ = some (.int .u32 ((land1 m.R (m.fl.take i)).getD f.r 0)) := (SW.out.hr.cellAt f.r (by omega)).trans (map_at (by rw [land1_len, WR.out]; exact hfr))
        clear hW y0 y1 y2 d0 rf rd hgl hpw hgrl
        go_still_tail 9, (by kernel_rfl)
        change wpList _ _ _ _ _ W.drew
        go_wp2_with fail
        go_roundg (n - (i + 1))
        case measure => omega
        case rel => exact ⟨i + 1, kk, X, by omega, rfl, by go_num, rfl, HIT.out⟩
      · have hz2 : ((f.k : Int) == 0) = false := by simp; omega
        have e5 : IntKind.i64.wrap ((f.k : Int) - 1) = (f.k : Int) - 1 := by rw [wrap_i64 _ (by omega) (by omega)]
        have hkn : kk < n := by omega
        have XL := Lib.hid RR.out.hX
        have EF := Lib.hid (show ([.int .i64 f.r, .int .u32 f.v, .int .i64 ((f.k : Int) - 1)] : List Value) = Fl.list ⟨f.r, f.v, f.k - 1⟩ by simp only [Fl.list]; rw [show ((f.k - 1 : Nat) : Int) = (f.k : Int) - 1 by omega])
        have OW := Lib.hid (RR.out.own HA.out)
        go_wp2_with (at_builtin; refine wpList_in3 rfl _ _ rfl ((wr.alloc (.cells #[.int .i64 f.r, .int .u32 f.v, .int .i64 ((f.k : Int) - 1)] 71)).alloc (.cells #[.int .i64 f.r, .int .u32 f.v, .int .i64 ((f.k : Int) - 1)] 71)) B n kk g V.cf X ⟨f.r, f.v, f.k - 1⟩ XL.out hkn rfl ((OW.out.alloc _).alloc _) (wr.heap.size + 1) rfl #[.int .i64 f.r, .int .u32 f.v, .int .i64 ((f.k : Int) - 1)] ?_ EF.out ?_; (· simpa using heap_alloc_new (wr.alloc (.cells #[.int .i64 f.r, .int .u32 f.v, .int .i64 ((f.k : Int) - 1)] 71)) (.cells #[.int .i64 f.r, .int .u32 f.v, .int .i64 ((f.k : Int) - 1)] 71)); intro w9 hown9 hg9 hs9; have MISS := Lib.hid (RR.out.miss HN.out hlt f FF.out hz ((SS.out.alloc _).alloc _) ((RR.out.be.alloc SS.out.B_le _).alloc (by have := SS.out.B_le; simp; omega) _) (by rw [HA.out]; exact hg9) (by rw [HA.out]; exact hown9)); clear hown9 hg9 hs9)
        go_roundg (n - (i + 1))
        case measure => omega
        case rel => exact ⟨i + 1, kk + 1, _, by omega, rfl, by go_num, by go_num, MISS.out⟩
    · have hd : decide ((i : Int) < (n : Int)) = false := by simp; omega
      obtain rfl : i = n := by omega
      have d8 : wr.cell? ⟨p, 8, none⟩ = some (.slice V.af X.length V.cf) := SS.out.cell 8
      have f8 := SS.out.frozen 8
      have hpw := SS.out.lt
      go_wp2_with fail
      go_end0
      have := RR.out.fin HN.out
      rw [HA.out] at this
      exact ⟨rfl, this⟩
set_option maxRecDepth 20000 in
set_option maxHeartbeats 1000000 in
theorem land_none (B p : Nat) (m : M) (V : Vs) (w : World) (h : SA B w p m V) (hA : V.af = none) : Calls Tryz.prog 70 #[.pointer (some ⟨p, 0, none⟩)] w (StepP B p (land m) w) := by
  have d8 : w.cell? ⟨p, 8, none⟩ = some (.slice V.af m.fl.length V.cf) := h.cell 8
  obtain ⟨hnil, hcf⟩ : m.fl = [] ∧ V.cf = 0 := by
    rcases h.hf.2 with ⟨h', h0⟩ | ⟨g, cap, cur, h', _⟩
    · simp only [Vs.f, Value.slice.injEq] at h'
      exact ⟨List.length_eq_zero_iff.1 h0, h'.2.2⟩
    · simp only [Vs.f, Value.slice.injEq] at h'
      rw [hA] at h'
      simp at h'
  have hpl := h.lt
  have f8 := h.frozen 8
  have FIN := Lib.hid (h.cutF (k := 0) (Nat.zero_le _))
  have HP := Lib.hid h.hp
  have EQ := Lib.hid (land_nil hnil)
  have EM := Lib.hid (show ({ m with fl := m.fl.take 0 } : M) = m by obtain ⟨R, mem, inp, tk, out, pc, st, sp, fl, jp, dl⟩ := m; simp only at hnil; subst hnil; rfl)
  rw [hA, hcf, hnil] at d8
  simp only [List.length_nil] at d8
  rw [hA, hcf] at FIN
  clear h hnil
  go_enter Tryz.func70, Tryz.ntmps70
  go_wp2_with fail
  go_loopw [2, 15] (fun l o wr2 => l = .slice none 0 0 ∧ o = .int .i64 0 ∧ wr2 = w) (fun _ _ _ => 0)
  case atStart => exact ⟨rfl, rfl, rfl⟩
  case round =>
    obtain ⟨rfl, rfl, rfl⟩ := hrel
    go_wp2
    go_end0
    rw [EQ.out]
    have := FIN.out
    rw [EM.out] at this
    exact ⟨rfl, ⟨_, this⟩, (Below.refl _ _).setCell (by exact HP.out) _⟩
/-- All ways. -/
theorem land_any (B p : Nat) (m : M) (V : Vs) (w : World) (h : SA B w p m V) (k : Ok m) : Calls Tryz.prog 70 #[.pointer (some ⟨p, 0, none⟩)] w (StepP B p (land m) w) := by
  rcases h.hf.2 with ⟨h', h0⟩ | ⟨g, cap, cur, h', _⟩
  · simp only [Vs.f, Value.slice.injEq] at h'
    exact land_none B p m V w h h'.1
  · simp only [Vs.f, Value.slice.injEq] at h'
    exact land_some B p g m V w h k h'.1
end Go.Proofs.YtbgmdikcbglpiaaGreatDoor
