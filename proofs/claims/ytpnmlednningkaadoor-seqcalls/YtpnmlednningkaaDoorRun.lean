/-
  Contracts of package seq's Run and Step and of the page's Run, where they run: of a program and a state that may be the state behind so many steps, and how many they were. Conditions: the program and the state read so, and may be; the tables lie in the world; at most 20,000 steps.
-/
import Derived.Test.YtpnmlednningkaaDoorRq
import Derived.Test.YtpnmlednningkaaDoorSq7
import Derived.Test.YtpnmlednningkaaDoorPg4
import Derived.Deep.LoopGhost
namespace Go.Proofs.YtpnmlednningkaaDoor
open Go.RowKit

/-- A slice that reads as a list of numbers, nil or not, and lies at B or above. -/
def RdN (B : Nat) (k : IntKind) (w : World) (v : Value) (xs : List Int) : Prop :=
  ∃ A c, v = .slice A xs.length c ∧ (0 < xs.length → ∃ ad : Addr, A = some ad ∧ B ≤ ad.block ∧ ad.block < w.heap.size ∧ ∀ j u, (xs.map (Value.int k))[j]? = some u → w.cell? (ad.add j) = some u)
section
variable {B B' : Nat} {k : IntKind} {w w' : World} {v : Value} {xs : List Int} {m : M}
theorem RdN.rd (h : RdN B k w v xs) : Rd k w v xs := by
  obtain ⟨A, c, hv, h⟩ := h
  exact ⟨A, c, hv, fun h0 => by obtain ⟨ad, ha, _, hb, hc⟩ := h h0; exact ⟨ad, ha, hb, hc⟩⟩
theorem RdN.keep (h : RdN B k w v xs) (hs : w.heap.size ≤ w'.heap.size) (hk : ∀ p : Addr, B ≤ p.block → p.block < w.heap.size → w'.cell? p = w.cell? p) : RdN B k w' v xs := by
  obtain ⟨A, c, hv, h⟩ := h
  refine ⟨A, c, hv, fun h0 => ?_⟩
  obtain ⟨ad, ha, h1, hb, hc⟩ := h h0
  exact ⟨ad, ha, h1, by omega, fun j u hu => (hk _ (by rw [block_add]; exact h1) (by rw [block_add]; exact hb)).trans (hc j u hu)⟩
theorem RdN.mono (h : RdN B k w v xs) (hb : B' ≤ B) : RdN B' k w v xs := by
  obtain ⟨A, c, hv, h⟩ := h
  exact ⟨A, c, hv, fun h0 => by obtain ⟨ad, ha, h1, hb, hc⟩ := h h0; exact ⟨ad, ha, by omega, hb, hc⟩⟩
theorem RdN.of_own {e : Nat} (h : w.ownsRow B e 1 v xs.length (xs.map (Value.int k))) : RdN B k w v xs := by
  rcases h.2 with ⟨rfl, h0⟩ | ⟨g, cap, cur, rfl, hb, hg, _⟩
  · exact ⟨none, 0, by rw [h0], fun h1 => absurd h1 (by omega)⟩
  · exact ⟨_, _, rfl, fun _ => ⟨_, rfl, hb, lt_of_heap hg, h.cells rfl⟩⟩
/-- A state's value reads as the data m, its rows at B or above. -/
def SVN (B : Nat) (w : World) (v : Value) (m : M) : Prop := ∃ r q i o z A c, v = .agg #[r, q, i, .int .i64 m.tk, o, .int .i64 m.pc, z, .int .i64 m.stop, .slice A 0 c, .int .i64 0, .int .i64 0] ∧ RdN B .u32 w r m.R ∧ RdN B .u32 w q m.mem ∧ RdN B .u32 w i m.inp ∧ RdN B .u32 w o m.out ∧ RdN B .i64 w z (m.st.map Int.ofNat)
theorem SVN.sv (h : SVN B w v m) : SV w v m := by
  obtain ⟨r, q, i, o, z, A, c, hv, h1, h2, h3, h4, h5⟩ := h
  exact ⟨r, q, i, o, z, A, c, hv, h1.rd, h2.rd, h3.rd, h4.rd, h5.rd⟩
theorem SVN.keep (h : SVN B w v m) (hs : w.heap.size ≤ w'.heap.size) (hk : ∀ p : Addr, B ≤ p.block → p.block < w.heap.size → w'.cell? p = w.cell? p) : SVN B w' v m := by
  obtain ⟨r, q, i, o, z, A, c, hv, h1, h2, h3, h4, h5⟩ := h
  exact ⟨r, q, i, o, z, A, c, hv, h1.keep hs hk, h2.keep hs hk, h3.keep hs hk, h4.keep hs hk, h5.keep hs hk⟩
theorem SVN.mono (h : SVN B w v m) (hb : B' ≤ B) : SVN B' w v m := by
  obtain ⟨r, q, i, o, z, A, c, hv, h1, h2, h3, h4, h5⟩ := h
  exact ⟨r, q, i, o, z, A, c, hv, h1.mono hb, h2.mono hb, h3.mono hb, h4.mono hb, h5.mono hb⟩
theorem SVN.below (h : SVN B w v m) (hb : Below w.heap.size w w') : SVN B w' v m := h.keep hb.size fun _ _ hp => hb.cell hp
theorem SVN.grown (h : SVN B w v m) {g : Nat} (hg : w.grownBy w' (some g)) (hl : g < B) : SVN B w' v m := h.keep hg.size fun p hp hp2 => World.cell?_of_block (hg.block p.block hp2 (by intro e; cases e; omega))
theorem SR.svn {V : Vs} (h : SR B w m V) (hR : m.R.length = 16) (hM : m.mem.length = 256) : SVN B w (.agg (stCells m V)) m := by
  refine ⟨V.r, V.m, V.i m, V.o m, V.s m, none, 0, rfl, ?_, ?_, ?_, ?_, ?_⟩
  · have := h.hr; rw [← hR] at this; exact RdN.of_own (by rw [← hR] at *; exact this)
  · have := h.hm; rw [← hM] at this; exact RdN.of_own this
  · exact RdN.of_own h.hi
  · exact RdN.of_own h.ho
  · have := h.hs
    rw [ni_eq] at this
    exact RdN.of_own (e := 3) (by rw [List.length_map]; exact this)
end

def RunPost (r : M × Nat) (w : World) (e : Ending) (w' : World) : Prop := ∃ v, e = .returned (.tuple #[v, .int .i64 r.2, .int .i64 0]) ∧ SVN w.heap.size w' v r.1 ∧ Below w.heap.size w w'
def Run2Post (r : M × Nat) (w : World) (e : Ending) (w' : World) : Prop := ∃ v, e = .returned (.tuple #[v, .int .i64 r.2]) ∧ SVN w.heap.size w' v r.1 ∧ Below w.heap.size w w'
def StepPost2 (m : M) (w : World) (e : Ending) (w' : World) : Prop := ∃ v, e = .returned (.tuple #[v, .int .i64 0]) ∧ SVN w.heap.size w' v m ∧ Below w.heap.size w w'
/-- What the loop keeps. -/
def Lp (B p : Nat) (P : List In5) (m0 : M) (n : Nat) (w : World) (i : Nat) (wr : World) : Prop := ∃ m V, At P m0 n i m ∧ SA B wr p m V ∧ Below w.heap.size w wr
theorem one_int (x : Int) : (Value.int .i64 x).oneCell' = true := rfl
set_option maxRecDepth 20000 in
set_option maxHeartbeats 4000000 in
theorem run_ok (P : List In5) (m : M) (pv sv : Value) (n : Int) (w : World) (hp : RdP w pv P) (v : Vp P) (h : SV w sv m) (k : Okk m) (T : Tab w) (h0 : 0 ≤ n) (h1 : n ≤ 20000) (ho : m.out.length + n.toNat ≤ 1000000) :
    Calls Tryd.prog 21 #[pv, sv, .int .i64 n] w (RunPost (runP P n.toNat m) w) := by
  obtain ⟨N, rfl⟩ : ∃ N : Nat, n = N := ⟨n.toNat, by omega⟩
  rw [show ((N : Nat) : Int).toNat = N by omega] at ho ⊢
  have CP := Lib.hid (fun W (hb : Below w.heap.size w W) => isProgram_is (P.map In5.raw) pv true W (RdP.keep hp hb) (szs_raw P) (T.below hb) v.raw)
  have SB := Lib.hid (h.stB k)
  have CC := Lib.hid (fun W (hb : Below w.heap.size w W) => copyOf_any m sv W (h.below hb) k.ok)
  obtain ⟨A, c, rfl, hprg⟩ := hp.form
  have SP := Lib.hid (fun B p m V W (hb : Below w.heap.size w W) (hB : w.heap.size ≤ B) (h : SA B W p m V) (k : Ok m) (hs : m.stop = 0) => step_any B p A c P m V W v ((hprg.keep hb).mono hB) h k hs)
  have VP := Lib.hid v
  have KK := Lib.hid k
  have HO := Lib.hid ho
  obtain ⟨r, q, i, o, z, A6, c6, rfl, a1, a2, a3, a4, a5⟩ := h
  have O1 := Lib.hid (one11 (a := m.tk) (b := m.pc) (s := m.stop) (A := A6) (c := c6) a1.one a2.one a3.one a4.one a5.one)
  obtain ⟨A1, c1, rfl, _⟩ := a1
  obtain ⟨A2, c2, rfl, _⟩ := a2
  obtain ⟨A3, c3, rfl, _⟩ := a3
  obtain ⟨A5, c5, rfl, ha5⟩ := a5
  have CK := Lib.hid (fun W (hb : Below w.heap.size w W) => check_st A1 A2 A3 A5 A6 m.R.length c1 m.mem.length c2 m.inp.length c3 c5 0 c6 m.tk m.pc m.stop 0 0 o (m.st.map Int.ofNat) W ((show Rd .i64 w _ _ from ⟨A5, c5, rfl, ha5⟩).below hb) (by have := k.ok.st; simp; omega) true SB.out)
  have t1 : decide ((N : Int) < 0) = false := by simp
  have t2 : decide (20000 < (N : Int)) = false := by simp; omega
  clear ha5 a4 hprg hp T k v ho SB
  generalize hr : Value.slice A1 m.R.length c1 = r at *
  generalize hq : Value.slice A2 m.mem.length c2 = q at *
  generalize hi : Value.slice A3 m.inp.length c3 = i at *
  generalize hz : Value.slice A5 (m.st.map Int.ofNat).length c5 = z at *
  clear hr hq hi hz
  generalize hPl : P.length = pl at *
  clear hPl
  have X0 := Lib.hid (show BK 27 ((w.alloc (.cells #[r, q, i, .int .i64 m.tk, o, .int .i64 m.pc, z, .int .i64 m.stop, .slice A6 0 c6, .int .i64 0, .int .i64 0] 27)).alloc (.cells ZS 27)) w.heap.size #[r, q, i, .int .i64 m.tk, o, .int .i64 m.pc, z, .int .i64 m.stop, .slice A6 0 c6, .int .i64 0, .int .i64 0] from BK.alloc (heap_alloc_new w _) _)
  have Y0 := Lib.hid (show BK 27 ((w.alloc (.cells #[r, q, i, .int .i64 m.tk, o, .int .i64 m.pc, z, .int .i64 m.stop, .slice A6 0 c6, .int .i64 0, .int .i64 0] 27)).alloc (.cells ZS 27)) (w.heap.size + 1) ZS from by have h := heap_alloc_new (w.alloc (.cells #[r, q, i, .int .i64 m.tk, o, .int .i64 m.pc, z, .int .i64 m.stop, .slice A6 0 c6, .int .i64 0, .int .i64 0] 27)) (.cells ZS 27); simpa [BK] using h)
  have G0 := Lib.hid (below_two w (.cells #[r, q, i, .int .i64 m.tk, o, .int .i64 m.pc, z, .int .i64 m.stop, .slice A6 0 c6, .int .i64 0, .int .i64 0] 27) (.cells ZS 27))
  go_enter Tryd.func21, Tryd.ntmps21
  go_wp2_with fail
  refine (CP.out _ G0.out).mono ?_
  rintro e w1 ⟨rfl, b1⟩
  have X1 := Lib.hid (X0.out.below b1)
  have Y1 := Lib.hid (Y0.out.below b1)
  have G1 := Lib.hid (G0.out.trans (b1.mono (by simp; omega)))
  have T1 := Lib.hid (show w.heap.size + 2 ≤ w1.heap.size by have := b1.size; simp at this; omega)
  obtain ⟨q0, q1, q2, q3, q4, q5, q6, q7, q8, q9, q10⟩ := X1.out.c11
  have hl1 := X1.out.lt
  clear b1
  go_wp2_with fail
  refine (CK.out _ G1.out).mono ?_
  rintro e w2 ⟨rfl, b2⟩
  have X2 := Lib.hid (X1.out.below b2)
  have Y2 := Lib.hid (Y1.out.below b2)
  have G2 := Lib.hid (G1.out.trans (b2.mono (by have := T1.out; omega)))
  have T2 := Lib.hid (show w.heap.size + 2 ≤ w2.heap.size by have := b2.size; have := T1.out; omega)
  clear b2 q0 q1 q2 q3 q4 q5 q6 q7 q8 q9 q10 hl1
  obtain ⟨q0, q1, q2, q3, q4, q5, q6, q7, q8, q9, q10⟩ := X2.out.c11
  have hl1 := X2.out.lt
  go_wp2_with fail
  refine (CC.out _ G2.out).mono ?_
  rintro e w3 ⟨V, rfl, s3, b3⟩
  have Y3 := Lib.hid (Y2.out.below b3)
  have G3 := Lib.hid (G2.out.trans (b3.mono (by have := T2.out; omega)))
  have S3 := Lib.hid s3
  have T3 := Lib.hid (show w.heap.size + 2 ≤ w3.heap.size by have := b3.size; have := T2.out; omega)
  clear b3 s3 q0 q1 q2 q3 q4 q5 q6 q7 q8 q9 q10 hl1
  go_wp2_with (((with_reducible refine wpList_store_bk (T := 27) (op := ⟨none, .store 27 _ _, _, _, _, none⟩) rfl _ _ rfl Tryd.size27 (w.heap.size + 1) ZS (stCells m V) ?sx ?sy ?sb ?s1 ?s2 ?s3 ?_); (case sx => rfl); (case sy => rfl); (case s1 => rfl); (case s2 => rfl); (case s3 => exact st_one m V)))
  case sb => exact Y3.out
  intro w4 hbl hg hsz
  have L4 := Lib.hid (show Lp (w.heap.size + 1) (w.heap.size + 1) P m N w 0 w4 from ⟨m, V, At.zero KK.out, (S3.out.grown hg (by intro k hk; cases hk; have := T2.out; omega)).sa hbl (by have := T2.out; omega) (Nat.le_refl _), gb_below (B := w.heap.size) hg (by omega) (by have := T3.out; omega) |> G3.out.trans⟩)
  clear hbl hg hsz
  go_wp2_with fail
  go_loopg [7] N (fun gk dn wr2 => ∃ i : Nat, i ≤ N ∧ gk = N - i ∧ dn = .int .i64 i ∧ Lp (w.heap.size + 1) (w.heap.size + 1) P m N w i wr2)
  case atStart => exact ⟨0, by omega, rfl, rfl, L4.out⟩
  case round =>
    clear L4
    obtain ⟨i, hi, rfl, rfl, hlp⟩ := hrel
    obtain ⟨m1, V1, at1, sa1, bl1⟩ := hlp
    have AT := Lib.hid at1
    have SA1 := Lib.hid sa1
    have BL := Lib.hid bl1
    have k7 : wr.cell? ⟨w.heap.size + 1, 7, none⟩ = some (.int .i64 m1.stop) := sa1.cell 7
    have hlw := sa1.lt
    clear at1 sa1 bl1
    by_cases hlt : i < N
    · have hd : decide ((i : Int) < (N : Int)) = true := by simpa using hlt
      by_cases hs : m1.stop = 0
      · have hz : (m1.stop == 0) = true := by simpa using hs
        have HS := Lib.hid hs
        clear hs
        go_wp2_with (go_at_call 46; refine (SP.out (w.heap.size + 1) (w.heap.size + 1) m1 V1 _ BL.out (by omega) SA1.out AT.out.ok.ok HS.out).mono ?_; rintro e w5 ⟨rfl, ⟨V2, sa2⟩, b5⟩; have SA2 := Lib.hid sa2; have B5 := Lib.hid (BL.out.trans (b5.mono (by omega))); clear sa2 b5)
        go_roundg (N - (i + 1))
        case measure => omega
        case rel => exact ⟨i + 1, by omega, rfl, by go_num, stepP P m1, V2, AT.out.step VP.out HO.out hlt HS.out, SA2.out, B5.out⟩
      · have hz : (m1.stop == 0) = false := by simpa using hs
        have DN := Lib.hid (AT.out.done (.inr hs))
        clear hs
        as_aux_lemma =>
        obtain ⟨TB, hbk⟩ := SA1.out.bk
        have BK1 := Lib.hid (show BK TB wr (w.heap.size + 1) (stCells m1 V1) from hbk)
        clear hbk
        go_wp2_with (first | ((with_reducible refine wpList_load_bk2 (T := 27) (T' := TB) (op := ⟨some 40, .load 27 _, _, _, _, none⟩) rfl _ rfl Tryd.underlying27 Tryd.size27 (w.heap.size + 1) (stCells m1 V1) ?lx ?lb ?l1 ?_); (case lx => rfl); (case l1 => rfl); (case lb => exact BK1.out)) | ((with_reducible refine wpList_store_bk2 (T := 27) (T' := TB) (op := ⟨none, .store 27 _ _, _, _, _, none⟩) rfl _ _ rfl Tryd.size27 (w.heap.size + 1) (stCells m1 V1) (stCells m1 V1) ?sx ?sy ?sb ?s1 ?s2 ?s3 ?_); (case sx => rfl); (case sy => rfl); (case s1 => rfl); (case s2 => rfl); (case s3 => exact st_one m1 V1); (case sb => exact BK1.out)))
        intro w9 hbl hg hsz
        have LD := Lib.hid (hbl.load2 Tryd.underlying27 Tryd.size27 rfl)
        have SVF := Lib.hid ((SA1.out.srp hg).svn AT.out.ok.ok.R AT.out.ok.ok.mem |>.mono (Nat.le_succ _))
        have BF := Lib.hid (BL.out.trans (gb_below (B := w.heap.size) hg (by omega) (by have := BL.out.size; omega)))
        clear hbl hg hsz
        go_wp2_with fail
        refine bodyPost_ret (v := .tuple #[.agg (stCells m1 V1), .int .i64 i, .int .i64 0]) ?_ rfl ⟨_, by rw [DN.out], by rw [DN.out]; exact SVF.out, BF.out⟩
        rw [results_cell_two Tryd.results21]
        simp [asAddr, Result.andThen, LD.out]
    · have hd : decide ((i : Int) < (N : Int)) = false := by simp; omega
      have DN := Lib.hid (AT.out.done (.inl (by omega)))
      as_aux_lemma =>
      obtain ⟨TB, hbk⟩ := SA1.out.bk
      have BK1 := Lib.hid (show BK TB wr (w.heap.size + 1) (stCells m1 V1) from hbk)
      clear hbk
      go_wp2_with (first | ((with_reducible refine wpList_load_bk2 (T := 27) (T' := TB) (op := ⟨some 40, .load 27 _, _, _, _, none⟩) rfl _ rfl Tryd.underlying27 Tryd.size27 (w.heap.size + 1) (stCells m1 V1) ?lx ?lb ?l1 ?_); (case lx => rfl); (case l1 => rfl); (case lb => exact BK1.out)) | ((with_reducible refine wpList_store_bk2 (T := 27) (T' := TB) (op := ⟨none, .store 27 _ _, _, _, _, none⟩) rfl _ _ rfl Tryd.size27 (w.heap.size + 1) (stCells m1 V1) (stCells m1 V1) ?sx ?sy ?sb ?s1 ?s2 ?s3 ?_); (case sx => rfl); (case sy => rfl); (case s1 => rfl); (case s2 => rfl); (case s3 => exact st_one m1 V1); (case sb => exact BK1.out)))
      intro w9 hbl hg hsz
      have LD := Lib.hid (hbl.load2 Tryd.underlying27 Tryd.size27 rfl)
      have SVF := Lib.hid ((SA1.out.srp hg).svn AT.out.ok.ok.R AT.out.ok.ok.mem |>.mono (Nat.le_succ _))
      have BF := Lib.hid (BL.out.trans (gb_below (B := w.heap.size) hg (by omega) (by have := BL.out.size; omega)))
      clear hbl hg hsz
      go_wp2_with fail
      refine bodyPost_ret (v := .tuple #[.agg (stCells m1 V1), .int .i64 i, .int .i64 0]) ?_ rfl ⟨_, by rw [DN.out], by rw [DN.out]; exact SVF.out, BF.out⟩
      rw [results_cell_two Tryd.results21]
      simp [asAddr, Result.andThen, LD.out]
end Go.Proofs.YtpnmlednningkaaDoor
