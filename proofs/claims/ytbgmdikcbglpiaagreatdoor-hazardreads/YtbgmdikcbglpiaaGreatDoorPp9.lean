/-
  Contracts of package pipe's calls drain, advance, issue, cycle: what they do is what the Lean functions tell. Conditions: the state lies behind the pointer, and may be; so may the code, which lies in old memory.
-/
import Derived.Test.YtbgmdikcbglpiaaGreatDoorPp8
import Derived.Test.YtbgmdikcbglpiaaGreatDoorBdl
namespace Go.Proofs.YtbgmdikcbglpiaaGreatDoor
open Go.RowKit

set_option maxRecDepth 20000 in
set_option maxHeartbeats 1000000 in
theorem drain_any (B p : Nat) (m : M) (V : Vs) (w : World) (h : SA B w p m V) (k : Ok m) (hL : Lo 5 m.fl) : Calls Tryz.prog 73 #[.pointer (some ⟨p, 0, none⟩)] w (StepP B p (drain m) w) := by
  have H := Lib.hid h
  have K := Lib.hid k
  have LL := Lib.hid hL
  clear h k hL
  go_enter Tryz.func73, Tryz.ntmps73
  go_wp2_with fail
  go_loopg [] 6 (fun gk wr => ∃ (n : Nat) (V2 : Vs), n + gk = 6 ∧ 1 ≤ gk ∧ Ok (lands n m) ∧ SA B wr p (lands n m) V2 ∧ Below B w wr)
  case atStart => exact ⟨0, V, by omega, by omega, K.out, H.out, Below.refl _ _⟩
  case round =>
    obtain ⟨n, V2, hn, hg, ok, S, hb⟩ := hrel
    have OK := Lib.hid ok
    have SS := Lib.hid S
    have HB := Lib.hid hb
    have d8 : wr.cell? ⟨p, 8, none⟩ = some (.slice V2.af (lands n m).fl.length V2.cf) := S.cell 8
    have hpl := S.lt
    have hlo := lands_lo (n := n) LL.out (by omega)
    have HLO := Lib.hid hlo
    clear ok S hb hlo
    by_cases he : (lands n m).fl = []
    · have hd : ¬ 0 < (lands n m).fl.length := by rw [he]; simp
      have DR := Lib.hid (drain_of (n := n) (m := m) (by omega) he)
      clear he
      go_wp2_with fail
      go_end0
      exact ⟨rfl, ⟨V2, by rw [← DR.out]; exact SS.out⟩, HB.out⟩
    · have hd : 0 < (lands n m).fl.length := List.length_pos_iff.2 he
      have hn5 : n < 5 := by
        rcases Nat.lt_or_ge n 5 with h1 | h1
        · exact h1
        · obtain rfl : n = 5 := by omega
          exact absurd (HLO.out.zero) he
      clear he
      go_wp2_with fail
      refine (land_any B p (lands n m) V2 wr SS.out OK.out).mono ?_
      rintro e W3 ⟨rfl, ⟨V3, S3⟩, hb3⟩
      have S4 := Lib.hid (show SA B W3 p (lands (n + 1) m) V3 by rw [lands_succ]; exact S3)
      have O4 := Lib.hid (show Ok (lands (n + 1) m) by rw [lands_succ]; exact OK.out.land)
      have B4 := Lib.hid (HB.out.trans hb3)
      clear S3 hb3
      go_wp2_with fail
      go_roundg (gk - 1)
      case measure => omega
      case rel => exact ⟨n + 1, V3, by omega, by omega, O4.out, S4.out, B4.out⟩
set_option maxRecDepth 20000 in
set_option maxHeartbeats 1000000 in
theorem adv_yes (B p : Nat) (m : M) (V : Vs) (w : World) (h : SA B w p m V) (k : Ok m)  : Calls Tryz.prog 72 #[.bool true, .pointer (some ⟨p, 0, none⟩)] w (StepP B p ({ m with pc := m.pc + 1 }) w) := by
  have H := Lib.hid h
  have hpc := k.pc
  have hdl := k.dl
  have c5 : w.cell? ⟨p, 5, none⟩ = some (.int .i64 m.pc) := h.cell 5
  have c10 : w.cell? ⟨p, 10, none⟩ = some (.int .i64 m.dl) := h.cell 10
  have c9 : w.cell? ⟨p, 9, none⟩ = some (.int .i64 m.jp) := h.cell 9
  have f5 := h.frozen 5
  have f9 := h.frozen 9
  have f10 := h.frozen 10
  have hpl := h.lt
  have e5 : IntKind.i64.wrap ((m.pc : Int) + 1) = (m.pc : Int) + 1 := by rw [wrap_i64 _ (by omega) (by omega)]
  have e6 : IntKind.i64.wrap ((m.dl : Int) - 1) = (m.dl : Int) - 1 := by rw [wrap_i64 _ (by omega) (by omega)]
  clear h k
  go_enter Tryz.func72, Tryz.ntmps72
  go_wp2
  go_end0
  exact ⟨rfl, ⟨_, H.out.setPC (m.pc + 1)⟩, (Below.refl _ _).setCell (by exact H.out.hp) _⟩
set_option maxRecDepth 20000 in
set_option maxHeartbeats 1000000 in
theorem adv_zero (B p : Nat) (m : M) (V : Vs) (w : World) (h : SA B w p m V) (k : Ok m) (hz : m.dl = 0) : Calls Tryz.prog 72 #[.bool false, .pointer (some ⟨p, 0, none⟩)] w (StepP B p ({ m with pc := m.pc + 1 }) w) := by
  have H := Lib.hid h
  have hpc := k.pc
  have hdl := k.dl
  have c5 : w.cell? ⟨p, 5, none⟩ = some (.int .i64 m.pc) := h.cell 5
  have c10 : w.cell? ⟨p, 10, none⟩ = some (.int .i64 m.dl) := h.cell 10
  have c9 : w.cell? ⟨p, 9, none⟩ = some (.int .i64 m.jp) := h.cell 9
  have f5 := h.frozen 5
  have f9 := h.frozen 9
  have f10 := h.frozen 10
  have hpl := h.lt
  have e5 : IntKind.i64.wrap ((m.pc : Int) + 1) = (m.pc : Int) + 1 := by rw [wrap_i64 _ (by omega) (by omega)]
  have e6 : IntKind.i64.wrap ((m.dl : Int) - 1) = (m.dl : Int) - 1 := by rw [wrap_i64 _ (by omega) (by omega)]
  have t0 : ((m.dl : Int) == 0) = true := by simp; omega
  have HZ := Lib.hid hz
  clear hz
  clear h k
  go_enter Tryz.func72, Tryz.ntmps72
  go_wp2
  go_end0
  exact ⟨rfl, ⟨_, H.out.setPC (m.pc + 1)⟩, (Below.refl _ _).setCell (by exact H.out.hp) _⟩
set_option maxRecDepth 20000 in
set_option maxHeartbeats 1000000 in
theorem adv_one (B p : Nat) (m : M) (V : Vs) (w : World) (h : SA B w p m V) (k : Ok m) (hz : m.dl = 1) : Calls Tryz.prog 72 #[.bool false, .pointer (some ⟨p, 0, none⟩)] w (StepP B p ({ m with pc := m.jp, dl := 0, jp := 0 }) w) := by
  have H := Lib.hid h
  have hpc := k.pc
  have hdl := k.dl
  have c5 : w.cell? ⟨p, 5, none⟩ = some (.int .i64 m.pc) := h.cell 5
  have c10 : w.cell? ⟨p, 10, none⟩ = some (.int .i64 m.dl) := h.cell 10
  have c9 : w.cell? ⟨p, 9, none⟩ = some (.int .i64 m.jp) := h.cell 9
  have f5 := h.frozen 5
  have f9 := h.frozen 9
  have f10 := h.frozen 10
  have hpl := h.lt
  have e5 : IntKind.i64.wrap ((m.pc : Int) + 1) = (m.pc : Int) + 1 := by rw [wrap_i64 _ (by omega) (by omega)]
  have e6 : IntKind.i64.wrap ((m.dl : Int) - 1) = (m.dl : Int) - 1 := by rw [wrap_i64 _ (by omega) (by omega)]
  have t0 : ((m.dl : Int) == 0) = false := by simp; omega
  have t1 : ((m.dl : Int) - 1 == 0) = true := by simp; omega
  have HZ := Lib.hid hz
  clear hz
  clear h k
  go_enter Tryz.func72, Tryz.ntmps72
  go_wp2
  go_end0
  refine ⟨rfl, ⟨V, ?_⟩, ((((Below.refl _ _).setCell (by exact H.out.hp) _).setCell (by exact H.out.hp) _).setCell (by exact H.out.hp) _).setCell (by exact H.out.hp) _⟩
  rw [show (m.dl : Int) - 1 = ((0 : Nat) : Int) by have := HZ.out; omega]
  exact (((H.out.setPC (m.pc + 1)).setDl 0).setPC m.jp).setJp 0
set_option maxRecDepth 20000 in
set_option maxHeartbeats 1000000 in
theorem adv_two (B p : Nat) (m : M) (V : Vs) (w : World) (h : SA B w p m V) (k : Ok m) (hz : 2 ≤ m.dl) : Calls Tryz.prog 72 #[.bool false, .pointer (some ⟨p, 0, none⟩)] w (StepP B p ({ m with pc := m.pc + 1, dl := m.dl - 1 }) w) := by
  have H := Lib.hid h
  have hpc := k.pc
  have hdl := k.dl
  have c5 : w.cell? ⟨p, 5, none⟩ = some (.int .i64 m.pc) := h.cell 5
  have c10 : w.cell? ⟨p, 10, none⟩ = some (.int .i64 m.dl) := h.cell 10
  have c9 : w.cell? ⟨p, 9, none⟩ = some (.int .i64 m.jp) := h.cell 9
  have f5 := h.frozen 5
  have f9 := h.frozen 9
  have f10 := h.frozen 10
  have hpl := h.lt
  have e5 : IntKind.i64.wrap ((m.pc : Int) + 1) = (m.pc : Int) + 1 := by rw [wrap_i64 _ (by omega) (by omega)]
  have e6 : IntKind.i64.wrap ((m.dl : Int) - 1) = (m.dl : Int) - 1 := by rw [wrap_i64 _ (by omega) (by omega)]
  have t0 : ((m.dl : Int) == 0) = false := by simp; omega
  have t1 : ((m.dl : Int) - 1 == 0) = false := by simp; omega
  have HZ := Lib.hid hz
  clear hz
  clear h k
  go_enter Tryz.func72, Tryz.ntmps72
  go_wp2
  go_end0
  refine ⟨rfl, ⟨V, ?_⟩, ((Below.refl _ _).setCell (by exact H.out.hp) _).setCell (by exact H.out.hp) _⟩
  rw [show (m.dl : Int) - 1 = ((m.dl - 1 : Nat) : Int) by have := HZ.out; omega]
  exact (H.out.setPC (m.pc + 1)).setDl (m.dl - 1)
theorem advance_any (B p : Nat) (j : Bool) (m : M) (V : Vs) (w : World) (h : SA B w p m V) (k : Ok m) : Calls Tryz.prog 72 #[.bool j, .pointer (some ⟨p, 0, none⟩)] w (StepP B p (adv j m) w) := by
  unfold adv
  cases j
  · by_cases h0 : m.dl = 0
    · rw [if_pos (.inr h0)]; exact adv_zero B p m V w h k h0
    · rw [if_neg (by simp [h0])]
      by_cases h1 : m.dl = 1
      · rw [if_pos h1]; exact adv_one B p m V w h k h1
      · rw [if_neg h1]; exact adv_two B p m V w h k (by omega)
  · rw [if_pos (.inl rfl)]; exact adv_yes B p m V w h k
end Go.Proofs.YtbgmdikcbglpiaaGreatDoor
