/-
  Contracts of package pipe's calls issue and cycle: what they do is what the Lean functions tell. Conditions: the state lies behind the pointer, and may be; so may the code, which lies in old memory.
-/
import Derived.Test.YtbgmdikcbglpiaaGreatDoorPp9
namespace Go.Proofs.YtbgmdikcbglpiaaGreatDoor
open Go.RowKit

def IssP (B p : Nat) (m' : M) (j : Bool) (w : World) (e : Ending) (w' : World) : Prop := e = .returned (.bool j) ∧ Goes B w p m' w'
/-- do of an instruction of a bundle. -/
theorem pdo_x (B p : Nat) (y : In6) (x : In5) (hy : y = x.raw) (m : M) (V : Vs) (w : World) (h : SA B w p m V) (k : Ok m) (v : Vi x) (T : Tab w) (hB : 1 < B) (hfl : m.fl.length < 1000) : Calls Tryz.prog 88 #[.agg #[.int .i64 y.o, .int .i64 y.d, .int .i64 y.a, .int .i64 y.b, .int .i64 y.m, .string y.s], .pointer (some ⟨p, 0, none⟩)] w (DoP B p (slot x m).1 (slot x m).2.1 (slot x m).2.2 w) := by
  subst hy
  exact pdo_any B p x m V w h k v T hB hfl
/-- What the loop over the slots keeps. -/
structure IssR (B p : Nat) (b : List In5) (m0 : M) (w : World) (i : Nat) (m : M) (j : Bool) (wr : World) : Prop where
  go : slots (b.drop i) m j = slots b m0 false
  ok : Ok m
  fb : Fb i m.fl
  out : m.out.length ≤ m0.out.length + i
  sa : ∃ V, SA B wr p m V
  be : Below B w wr
  st : m.stop = 0
section
variable {B p i : Nat} {b : List In5} {m0 m : M} {w wr : World} {j : Bool}
theorem drop_at (hi : i < b.length) : b.drop i = b.getD i zi :: b.drop (i + 1) := by
  rw [List.drop_eq_getElem_cons hi, List.getD_eq_getElem?_getD, List.getElem?_eq_getElem hi]; rfl
theorem IssR.next (h : IssR B p b m0 w i m j wr) (hi : i < b.length) (v : Vi (b.getD i zi)) (ho : m0.out.length + i < 1000000) (h16 : i < 4) (hs : (slot (b.getD i zi) m).2.2 = 0) {W : World} (hS : ∃ V, SA B W p (slot (b.getD i zi) m).1 V) (hb : Below B w W) : IssR B p b m0 w (i + 1) (slot (b.getD i zi) m).1 (j || (slot (b.getD i zi) m).2.1) W := by
  refine ⟨?_, slot_ok v h.ok (by have := h.fb.len; omega) (by have := h.out; omega), slot_fb v h.ok h.fb, ?_, hS, hb, (slot_same v h.ok).2.2.1.trans h.st⟩
  · rw [← h.go, drop_at hi]
    conv => rhs; unfold slots
    rw [if_pos hs]
  · have := slot_out v h.ok; have := h.out; omega
theorem IssR.stops (h : IssR B p b m0 w i m j wr) (hi : i < b.length) (hs : (slot (b.getD i zi) m).2.2 ≠ 0) : slots b m0 false = (stop (slot (b.getD i zi) m).1 (slot (b.getD i zi) m).2.2, j) := by
  rw [← h.go, drop_at hi]
  conv => lhs; unfold slots
  rw [if_neg hs]
end
set_option maxRecDepth 100000 in
set_option maxHeartbeats 4000000 in
theorem issue_any (B p : Nat) (b : List In5) (X : Nat → In6) (hX : ∀ i, i < 4 → X i = (b.getD i zi).raw) (m : M) (V : Vs) (w : World) (h : SA B w p m V) (k : Ok m) (T : Tab w) (hB1 : 1 < B) (hb4 : b.length = 4) (hv : ∀ x ∈ b, Vi x) (f : Fb 0 m.fl) (ho : m.out.length + 4 ≤ 1000000) (hs : m.stop = 0) : Calls Tryz.prog 71 #[.agg (bcs X), .pointer (some ⟨p, 0, none⟩)] w (IssP B p (slots b m false).1 (slots b m false).2 w) := by
  have START := Lib.hid (show IssR B p b m w 0 m false (w.alloc (.cells (bcs X) 58)) from ⟨rfl, k, f, Nat.le_refl _, ⟨V, h.alloc _⟩, (below_new _ _).mono h.B_le, hs⟩)
  have TT := Lib.hid T
  have XX := Lib.hid hX
  have HV := Lib.hid (fun i (hi : i < 4) => (show Vi (b.getD i zi) by rw [List.getD_eq_getElem?_getD, List.getElem?_eq_getElem (by omega)]; exact hv _ (List.getElem_mem _)))
  clear h k T hX hv f hs
  go_enter Tryz.func71, Tryz.ntmps71
  go_wp2_with (((with_reducible refine wpList_load_bl (op := ⟨_, .load 58 _, _, _, _, none⟩) rfl _ rfl w.heap.size (bcs X) ?hx ?sb (bcs_size X) ?_); (case hx => rfl)))
  case sb => exact heap_alloc_new _ _
  go_wp2_with fail
  go_loopg [4, 10] 4 (fun gk q o wr2 => ∃ (i : Nat) (m2 : M) (j : Bool), i ≤ 4 ∧ gk = 4 - i ∧ o = .int .i64 i ∧ q = .bool j ∧ IssR B p b m w i m2 j wr2)
  case atStart => exact ⟨0, m, false, by omega, rfl, rfl, rfl, START.out⟩
  case round =>
    obtain ⟨i, m2, j, hi, rfl, rfl, rfl, hR⟩ := hrel
    have RR := Lib.hid hR
    have TR := Lib.hid (tab_below TT.out hR.be hB1)
    obtain ⟨V2, hS⟩ := hR.sa
    have SS := Lib.hid hS
    clear hR hS
    by_cases hlt : i < 4
    · have hd : decide ((i : Int) < 4) = true := by simp; omega
      have hix := index_x X i hlt
      have DO := Lib.hid (fun W (hW : SA B W p m2 V2) (TW : Tab W) => pdo_x B p (X i) (b.getD i zi) (XX.out i hlt) m2 V2 W hW RR.out.ok (HV.out i hlt) TW hB1 (by have := RR.out.fb.len; omega))
      have NEXT := Lib.hid (fun W hs => RR.out.next (W := W) (by omega) (HV.out i hlt) (by omega) hlt hs)
      have STOP := Lib.hid (fun hs => RR.out.stops (by omega) hs)
      generalize hq : (slot (b.getD i zi) m2).2.2 = st at DO NEXT STOP
      generalize (slot (b.getD i zi) m2).2.1 = j2 at DO NEXT STOP
      generalize (slot (b.getD i zi) m2).1 = m3 at DO NEXT STOP
      clear hq
      by_cases hst : st = 0
      · have hne : (st != 0) = false := by simp [hst]
        have HST := Lib.hid hst
        clear hst
        go_wp2_with (go_at_call 88; refine (DO.out _ (SS.out.alloc _) (TR.out.alloc _)).mono ?_; rintro e W3 ⟨rfl, S3, hb3⟩; have N3 := Lib.hid (NEXT.out W3 HST.out S3 ((RR.out.be.alloc SS.out.B_le _).trans hb3)); clear S3 hb3; cases j)
        · go_roundg (4 - (i + 1))
          case measure => omega
          case rel => exact ⟨i + 1, _, _, by omega, rfl, by go_num, by simp, N3.out⟩
        · go_roundg (4 - (i + 1))
          case measure => omega
          case rel => exact ⟨i + 1, _, _, by omega, rfl, by go_num, by simp, N3.out⟩
      · have hne : (st != 0) = true := by simpa using hst
        have EQ := Lib.hid (STOP.out hst)
        clear hst
        go_wp2_with (go_at_call 88; refine (DO.out _ (SS.out.alloc _) (TR.out.alloc _)).mono ?_; rintro e W3 ⟨rfl, ⟨V3, S3⟩, hb3⟩; have f7 := S3.frozen 7; have d7 : W3.cell? ⟨p, 7, none⟩ = some (.int .i64 m3.stop) := S3.cell 7; have hpl3 := S3.lt; have S4 := Lib.hid S3; have B4 := Lib.hid ((RR.out.be.alloc SS.out.B_le _).trans hb3); clear S3 hb3)
        go_ret
        rw [EQ.out]
        exact ⟨rfl, ⟨_, S4.out.setStop st⟩, B4.out.setCell (by exact S4.out.hp) _⟩
    · have hd : decide ((i : Int) < 4) = false := by simp; omega
      obtain rfl : i = 4 := by omega
      go_wp2_with fail
      go_ret
      have := RR.out.go
      rw [List.drop_of_length_le (by omega)] at this
      rw [← this]
      exact ⟨rfl, ⟨V2, SS.out⟩, RR.out.be⟩
end Go.Proofs.YtbgmdikcbglpiaaGreatDoor
