/-
  Contract of package pipe's call cycle: what a cycle does is what the Lean function cyc tells. Conditions: the state lies behind the pointer, and may be; so may the code, which lies in old memory.
-/
import Derived.Test.YtbgmdikcbglpiaaGreatDoorPp10
namespace Go.Proofs.YtbgmdikcbglpiaaGreatDoor
open Go.RowKit

set_option maxRecDepth 20000 in
set_option maxHeartbeats 2000000 in
theorem cycle_end (B p : Nat) (A : Option Addr) (c : Nat) (C : List (List In5)) (m : M) (V : Vs) (w : World) (h : SA B w p m V) (k : Okc m) (hp : C.length ≤ m.pc) : Calls Tryz.prog 49 #[.slice A C.length c, .pointer (some ⟨p, 0, none⟩)] w (StepP B p (stop (land m) 5) w) := by
  have L := Lib.hid (land_any B p m V w h k.ok)
  have HP := Lib.hid h.hp
  have hd : (C.length : Int) ≤ (m.pc : Int) := by omega
  clear h k
  go_enter Tryz.func49, Tryz.ntmps49
  go_wp2_with fail
  refine L.out.mono ?_
  rintro e W2 ⟨rfl, ⟨V2, S2⟩, hb2⟩
  have SS := Lib.hid S2
  have BB := Lib.hid hb2
  have c5 : W2.cell? ⟨p, 5, none⟩ = some (.int .i64 m.pc) := S2.cell 5
  have c7 : W2.cell? ⟨p, 7, none⟩ = some (.int .i64 m.stop) := S2.cell 7
  have f7 := S2.frozen 7
  have hpl := S2.lt
  clear S2 hb2
  go_wp2_with fail
  go_end0
  exact ⟨rfl, ⟨_, SS.out.setStop 5⟩, BB.out.setCell (by exact HP.out) _⟩
set_option maxRecDepth 20000 in
set_option maxHeartbeats 2000000 in
theorem cycle_go (B p : Nat) (ad : Addr) (c : Nat) (C : List (List In5)) (m : M) (V : Vs) (w : World) (h : SA B w p m V) (k : Okc m) (v : Vc C) (T : Tab w) (hB1 : 1 < B) (hp : m.pc < C.length) (hbl : ad.block < B) (hx : BAt w (ad.add (m.pc * 24)) (bX (C.getD m.pc []))) (ho : m.out.length + 4 ≤ 1000000) (hs : m.stop = 0) : Calls Tryz.prog 49 #[.slice (some ad) C.length c, .pointer (some ⟨p, 0, none⟩)] w (StepP B p (issue (C.getD m.pc []) (land m)) w) := by
  have L := Lib.hid (land_any B p m V w h k.ok)
  have HP := Lib.hid h.hp
  have hd : ¬ (C.length : Int) ≤ (m.pc : Int) := by omega
  have p0 : (0 : Int) ≤ (m.pc : Int) := by omega
  have p1 : (m.pc : Int) < (C.length : Int) := by omega
  have hn := v.1
  have KL := Lib.hid k.ok.land
  have FL := Lib.hid k.fb.later
  obtain ⟨hb4, hbv⟩ := v.at_ hp
  have HX := Lib.hid hx
  have TT := Lib.hid T
  have ISS := Lib.hid (fun W V2 (hW : SA B W p (land m) V2) (TW : Tab W) => issue_any B p (C.getD m.pc []) (bX (C.getD m.pc [])) (fun _ _ => rfl) (land m) V2 W hW k.ok.land TW hB1 hb4 hbv k.fb.later (by rw [(land_out m).1]; exact ho) ((land_out m).2.1.trans hs))
  obtain ⟨a, b, _, d, _, _⟩ := slots_ok (C.getD m.pc []) (land m) false 0 hbv k.ok.land k.fb.later (by omega) (by rw [(land_out m).1]; omega) ((land_out m).2.1.trans hs)
  have RO := Lib.hid a
  have RF := Lib.hid b.lo
  unfold issue
  generalize hb : C.getD m.pc [] = bb at *
  generalize (slots bb (land m) false).1 = m3 at *
  generalize (slots bb (land m) false).2 = j3 at *
  generalize hmf : (if m3.stop = 0 then adv j3 m3 else if m3.stop = 1 then drain m3 else m3) = mf
  have HM := Lib.hid hmf
  clear h k v T hx ho hs hbv a b d hb hb4 hmf
  go_enter Tryz.func49, Tryz.ntmps49
  go_wp2_with fail
  refine L.out.mono ?_
  rintro e W2 ⟨rfl, ⟨V2, S2⟩, hb2⟩
  have SS := Lib.hid S2
  have BB := Lib.hid hb2
  have TW := Lib.hid (tab_below TT.out hb2 hB1)
  have XW := Lib.hid (HX.out.keep hb2 (by rw [block_add]; exact hbl))
  have c5 : W2.cell? ⟨p, 5, none⟩ = some (.int .i64 m.pc) := S2.cell 5
  have hpl := S2.lt
  clear S2 hb2
  go_wp2_with ((with_reducible refine wpList_load_at (op := ⟨_, .load 58 _, _, _, _, none⟩) rfl _ rfl (ad.add (m.pc * 24)) (bX bb) ?hx2 XW.out ?_); (case hx2 => rfl))
  refine (ISS.out W2 V2 SS.out TW.out).mono ?_
  rintro e W3 ⟨rfl, ⟨V3, S3⟩, hb3⟩
  have S3' := Lib.hid S3
  have B3 := Lib.hid (BB.out.trans hb3)
  have c7 : W3.cell? ⟨p, 7, none⟩ = some (.int .i64 m3.stop) := S3.cell 7
  have hpl3 := S3.lt
  clear S3 hb3 c5 hpl
  by_cases h0 : m3.stop = 0
  · have t0 : (m3.stop == 0) = true := by simpa using h0
    have EQ := Lib.hid (show mf = adv j3 m3 by rw [← HM.out, if_pos h0])
    have AD := Lib.hid (advance_any B p j3 m3 V3 W3 S3'.out RO.out)
    clear h0
    go_wp2_with fail
    refine AD.out.mono ?_
    rintro e W4 ⟨rfl, S4, hb4⟩
    have S4' := Lib.hid S4
    have B4 := Lib.hid (B3.out.trans hb4)
    clear S4 hb4
    go_wp2_with fail
    go_end0
    exact ⟨rfl, by rw [EQ.out]; exact S4'.out, B4.out⟩
  · have t0 : (m3.stop == 0) = false := by simpa using h0
    have H0 := Lib.hid h0
    clear h0
    by_cases h1 : m3.stop = 1
    · have t1 : (m3.stop == 1) = true := by simpa using h1
      have EQ := Lib.hid (show mf = drain m3 by rw [← HM.out, if_neg H0.out, if_pos h1])
      have DR := Lib.hid (drain_any B p m3 V3 W3 S3'.out RO.out RF.out)
      clear h1
      go_wp2_with fail
      refine DR.out.mono ?_
      rintro e W4 ⟨rfl, S4, hb4⟩
      have S4' := Lib.hid S4
      have B4 := Lib.hid (B3.out.trans hb4)
      clear S4 hb4
      go_wp2_with fail
      go_end0
      exact ⟨rfl, by rw [EQ.out]; exact S4'.out, B4.out⟩
    · have t1 : (m3.stop == 1) = false := by simpa using h1
      have EQ := Lib.hid (show mf = m3 by rw [← HM.out, if_neg H0.out, if_neg h1])
      clear h1
      go_wp2_with fail
      go_end0
      exact ⟨rfl, by rw [EQ.out]; exact ⟨_, S3'.out⟩, B3.out⟩
theorem cycle_any (B p : Nat) (A : Option Addr) (c : Nat) (C : List (List In5)) (m : M) (V : Vs) (w : World) (h : SA B w p m V) (k : Okc m) (v : Vc C) (T : Tab w) (hB1 : 1 < B) (hC : Cd B w A C) (ho : m.out.length + 4 ≤ 1000000) (hs : m.stop = 0) : Calls Tryz.prog 49 #[.slice A C.length c, .pointer (some ⟨p, 0, none⟩)] w (StepP B p (cyc C m) w) := by
  unfold cyc
  by_cases hp : C.length ≤ m.pc
  · rw [if_pos hp]; exact cycle_end B p A c C m V w h k hp
  · rw [if_neg hp]
    obtain ⟨ad, rfl, hbl, hx⟩ := hC m.pc (by omega)
    exact cycle_go B p ad c C m V w h k v T hB1 (by omega) hbl hx ho hs
end Go.Proofs.YtbgmdikcbglpiaaGreatDoor
