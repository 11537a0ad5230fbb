/-
  Contract of the statements' call wakes, and how literal code lies in memory. Condition: the tables lie in the world.
  Contract of the statements' call wakes. Condition: the tables lie in the world.
  Contract of the statements' call runs: what code does, with given inputs, is in the program and on the page the same, cycle by cycle. Conditions: the code may be, the inputs are words, at most 100; the tables lie in the world.
-/
import Derived.Test.YtbgmdikcbglpiaaGreatDoorNew
namespace Go.Proofs.YtbgmdikcbglpiaaGreatDoor
open Go.RowKit

section
theorem addr0 (g j : Nat) : (⟨g, 0, none⟩ : Addr).add j = ⟨g, j, none⟩ := by unfold Addr.add; split <;> simp_all
def flatB (C : List (List In5)) : List Value := C.flatMap fun b => (bcs (bX b)).toList
theorem flatB_at (C : List (List In5)) (i j : Nat) (hi : i < C.length) (hj : j < 24) : (flatB C)[i * 24 + j]? = (bcs (bX (C.getD i [])))[j]? := by
  induction C generalizing i with
  | nil => simp at hi
  | cons y ys ih =>
    have hl : (bcs (bX y)).toList.length = 24 := rfl
    show ((bcs (bX y)).toList ++ flatB ys)[i * 24 + j]? = _
    cases i with
    | zero =>
      rw [List.getElem?_append_left (by rw [hl]; omega)]
      simp
    | succ i =>
      rw [List.getElem?_append_right (by rw [hl]; omega), hl, show (i + 1) * 24 + j - 24 = i * 24 + j by omega, ih i (by simpa using hi)]
      simp
/-- A row of bundles reads as the code that it holds. -/
theorem rdc_cells {w : World} {g n c : Nat} {C : List (List In5)} (hn : C.length = n) (hg : g < w.heap.size) (h : ∀ j u, (flatB C)[j]? = some u → w.cell? ⟨g, j, none⟩ = some u) : RdC w (.slice (some ⟨g, 0, none⟩) n c) C := by
  refine ⟨_, c, by rw [hn], fun i hi => ⟨_, rfl, hg, fun j u hu => ?_⟩⟩
  have hj : j < 24 := (Array.getElem?_eq_some_iff.1 hu).1
  rw [addr0]
  have e : (⟨g, i * 24, none⟩ : Addr).add j = ⟨g, i * 24 + j, none⟩ := by rw [← addr0 g (i * 24), Go.Deep.add_add, addr0]
  rw [e]
  exact h _ _ (by rw [flatB_at C i j hi hj]; exact hu)
theorem rdc_lit (w : World) (cs : Array Value) (C : List (List In5)) (n : Nat) (h : cs.toList = flatB C) (hn : C.length = n) : RdC (w.alloc (.cells cs 58)) (.slice (some ⟨w.heap.size, 0, none⟩) n n) C := by
  refine rdc_cells hn (by simp) fun j u hu => ?_
  rw [← h] at hu
  rw [cell_of_row _ w.heap.size j cs _ (0, 0) (heap_alloc_new w _)]
  simpa using hu
/-- Is it one that may be? By reckoning. -/
def viB (x : In5) : Bool := decide (x.o < 34) && insB x.o x.d x.a x.b x.m ⟨#[]⟩
theorem vi_of {x : In5} (h : viB x = true) : Vi x := by
  unfold viB at h
  simp only [Bool.and_eq_true, decide_eq_true_eq] at h
  exact ⟨h.1, h.2⟩
theorem vcc_of {C : List (List In5)} (h : (decide (C.length ≤ 1024) && C.all fun b => decide (b.length = 4) && b.all viB) = true) (hc : cdB (C.map bX) = true) : Vcc C := by
  refine ⟨?_, hc⟩
  simp only [Bool.and_eq_true, decide_eq_true_eq] at h
  refine ⟨h.1, fun b hb => ?_⟩
  have h2 := List.all_eq_true.1 h.2 b hb
  simp only [Bool.and_eq_true, decide_eq_true_eq] at h2
  exact ⟨h2.1, fun x hx => vi_of (List.all_eq_true.1 h2.2 x hx)⟩
theorem okc0 {xs : List Int} (hl : xs.length ≤ 100) (hw : ∀ x ∈ xs, 0 ≤ x ∧ x ≤ 4294967295) : Okc (m0 xs) :=
  { ok := { R := List.length_replicate .., mem := List.length_replicate .., inp := hl, tk := Nat.zero_le _, pc := Nat.zero_le _, st := Nat.zero_le _, out := Nat.zero_le _
            wR := fun x hx => by simp only [m0] at hx; rw [List.eq_of_mem_replicate hx]; omega
            wM := fun x hx => by simp only [m0] at hx; rw [List.eq_of_mem_replicate hx]; omega
            wI := hw, wS := fun x hx => by simp [m0] at hx
            fl := Nat.zero_le _, wF := fun f hf => by simp [m0] at hf
            jp := Nat.zero_le _, dl := Nat.zero_le _ }
    fb := ⟨fun f hf => by simp [m0] at hf, fun k _ => by simp [m0]⟩
    s0 := Int.le_refl _, s6 := by show (0 : Int) ≤ 6; decide }
def zw : In5 := ⟨0, 0, 0, 0, 0⟩
def wkC : List (List In5) := [[zw, zw, ⟨24, 1, 0, 0, 0⟩, zw], [zw, zw, zw, zw], [zw, zw, zw, zw], [⟨33, 0, 0, 0, 0⟩, zw, zw, zw]]
/-- A state that is all 0, but for memory's first word. -/
def wkM : M := { m0 [] with mem := (List.replicate 256 (0 : Int)).set 0 9 }
theorem wk3_n : (runC wkC 3 wkM).2 = 3 := by decide +kernel
theorem wk3_R : (runC wkC 3 wkM).1.R = [0, 0, 0, 0, 0, 0, 0, 0, 0, 0, 0, 0, 0, 0, 0, 0] := by decide +kernel
theorem wk9_n : (runC wkC 9 wkM).2 = 4 := by decide +kernel
theorem wk9_R : (runC wkC 9 wkM).1.R = [0, 9, 0, 0, 0, 0, 0, 0, 0, 0, 0, 0, 0, 0, 0, 0] := by decide +kernel
theorem wk9_stop : (runC wkC 9 wkM).1.stop = 1 := by decide +kernel
theorem wk_vcc : Vcc wkC := vcc_of (by decide +kernel) (by decide +kernel)
theorem wk_okc : Okc wkM := by
  have k := okc0 (xs := []) (by decide) (by simp)
  refine { ok := { k.ok with mem := ?_, wM := ?_ }, fb := k.fb, s0 := k.s0, s6 := k.s6 }
  · show ((List.replicate 256 (0 : Int)).set 0 9).length = 256
    rw [List.length_set, List.length_replicate]
  · intro x hx
    rcases List.mem_or_eq_of_mem_set hx with h | h
    · rw [List.eq_of_mem_replicate h]; omega
    · rw [h]; omega
theorem SR.saN {B p : Nat} {w : World} {m : M} {V : Vs} (h : SR B w m V) {W : World} (hg : w.grownBy W none) (hb : BK 27 W p (stCells m V)) (hp : p = w.heap.size) : SA B W p m V := by
  subst hp
  have a : ∀ {e z n c : Nat} {A : Option Addr} {k : Nat} {xs : List Value}, w.ownsRow B e z (.slice A k c) n xs → ob A ≠ some w.heap.size := fun h1 => own_hi h1 (Nat.le_refl _)
  have g : SR B W m V := h.grown hg (fun _ hk => by cases hk)
  have hB : B ≤ w.heap.size := by have := h.hr.lt V.gr rfl; omega
  exact { blk := ⟨27, hb⟩, hp := hB, hr := g.hr, hm := g.hm, hi := g.hi, ho := g.ho, hs := g.hs, hf := g.hf, pf := a h.hf
          pr := fun e => a h.hr (by simp [ob, e]), pm := fun e => a h.hm (by simp [ob, e]), pi := a h.hi, po := a h.ho, ps := a h.hs, rm := g.rm, ri := g.ri, ro := g.ro, rs := g.rs, mi := g.mi, mo := g.mo, ms := g.ms, io := g.io, is := g.is, os := g.os }
end
section
theorem rd_nil (w : World) : Rd .u32 w (.slice none 0 0) [] := ⟨none, 0, rfl, fun h => absurd h (by simp)⟩
set_option maxRecDepth 40000 in
set_option maxHeartbeats 8000000 in
theorem wakes_any (w : World) (T : Tab w) : Calls Tryz.prog 22 #[] w (BoolBelow true w) := by
  have TT := Lib.hid T
  have PG0 := Lib.hid (rdc_lit w #[.int .i64 0, .int .i64 0, .int .i64 0, .int .i64 0, .int .i64 0, .string ⟨#[]⟩, .int .i64 0, .int .i64 0, .int .i64 0, .int .i64 0, .int .i64 0, .string ⟨#[]⟩, .int .i64 24, .int .i64 1, .int .i64 0, .int .i64 0, .int .i64 0, .string ⟨#[]⟩, .int .i64 0, .int .i64 0, .int .i64 0, .int .i64 0, .int .i64 0, .string ⟨#[]⟩, .int .i64 0, .int .i64 0, .int .i64 0, .int .i64 0, .int .i64 0, .string ⟨#[]⟩, .int .i64 0, .int .i64 0, .int .i64 0, .int .i64 0, .int .i64 0, .string ⟨#[]⟩, .int .i64 0, .int .i64 0, .int .i64 0, .int .i64 0, .int .i64 0, .string ⟨#[]⟩, .int .i64 0, .int .i64 0, .int .i64 0, .int .i64 0, .int .i64 0, .string ⟨#[]⟩, .int .i64 0, .int .i64 0, .int .i64 0, .int .i64 0, .int .i64 0, .string ⟨#[]⟩, .int .i64 0, .int .i64 0, .int .i64 0, .int .i64 0, .int .i64 0, .string ⟨#[]⟩, .int .i64 0, .int .i64 0, .int .i64 0, .int .i64 0, .int .i64 0, .string ⟨#[]⟩, .int .i64 0, .int .i64 0, .int .i64 0, .int .i64 0, .int .i64 0, .string ⟨#[]⟩, .int .i64 33, .int .i64 0, .int .i64 0, .int .i64 0, .int .i64 0, .string ⟨#[]⟩, .int .i64 0, .int .i64 0, .int .i64 0, .int .i64 0, .int .i64 0, .string ⟨#[]⟩, .int .i64 0, .int .i64 0, .int .i64 0, .int .i64 0, .int .i64 0, .string ⟨#[]⟩, .int .i64 0, .int .i64 0, .int .i64 0, .int .i64 0, .int .i64 0, .string ⟨#[]⟩] wkC 4 rfl rfl)
  have B0 := Lib.hid (below_new w (.cells #[.int .i64 0, .int .i64 0, .int .i64 0, .int .i64 0, .int .i64 0, .string ⟨#[]⟩, .int .i64 0, .int .i64 0, .int .i64 0, .int .i64 0, .int .i64 0, .string ⟨#[]⟩, .int .i64 24, .int .i64 1, .int .i64 0, .int .i64 0, .int .i64 0, .string ⟨#[]⟩, .int .i64 0, .int .i64 0, .int .i64 0, .int .i64 0, .int .i64 0, .string ⟨#[]⟩, .int .i64 0, .int .i64 0, .int .i64 0, .int .i64 0, .int .i64 0, .string ⟨#[]⟩, .int .i64 0, .int .i64 0, .int .i64 0, .int .i64 0, .int .i64 0, .string ⟨#[]⟩, .int .i64 0, .int .i64 0, .int .i64 0, .int .i64 0, .int .i64 0, .string ⟨#[]⟩, .int .i64 0, .int .i64 0, .int .i64 0, .int .i64 0, .int .i64 0, .string ⟨#[]⟩, .int .i64 0, .int .i64 0, .int .i64 0, .int .i64 0, .int .i64 0, .string ⟨#[]⟩, .int .i64 0, .int .i64 0, .int .i64 0, .int .i64 0, .int .i64 0, .string ⟨#[]⟩, .int .i64 0, .int .i64 0, .int .i64 0, .int .i64 0, .int .i64 0, .string ⟨#[]⟩, .int .i64 0, .int .i64 0, .int .i64 0, .int .i64 0, .int .i64 0, .string ⟨#[]⟩, .int .i64 33, .int .i64 0, .int .i64 0, .int .i64 0, .int .i64 0, .string ⟨#[]⟩, .int .i64 0, .int .i64 0, .int .i64 0, .int .i64 0, .int .i64 0, .string ⟨#[]⟩, .int .i64 0, .int .i64 0, .int .i64 0, .int .i64 0, .int .i64 0, .string ⟨#[]⟩, .int .i64 0, .int .i64 0, .int .i64 0, .int .i64 0, .int .i64 0, .string ⟨#[]⟩] 58))
  clear T
  go_enter Tryz.func22, Tryz.ntmps22
  go_wp2_with fail
  generalize w.alloc (.cells #[.int .i64 0, .int .i64 0, .int .i64 0, .int .i64 0, .int .i64 0, .string ⟨#[]⟩, .int .i64 0, .int .i64 0, .int .i64 0, .int .i64 0, .int .i64 0, .string ⟨#[]⟩, .int .i64 24, .int .i64 1, .int .i64 0, .int .i64 0, .int .i64 0, .string ⟨#[]⟩, .int .i64 0, .int .i64 0, .int .i64 0, .int .i64 0, .int .i64 0, .string ⟨#[]⟩, .int .i64 0, .int .i64 0, .int .i64 0, .int .i64 0, .int .i64 0, .string ⟨#[]⟩, .int .i64 0, .int .i64 0, .int .i64 0, .int .i64 0, .int .i64 0, .string ⟨#[]⟩, .int .i64 0, .int .i64 0, .int .i64 0, .int .i64 0, .int .i64 0, .string ⟨#[]⟩, .int .i64 0, .int .i64 0, .int .i64 0, .int .i64 0, .int .i64 0, .string ⟨#[]⟩, .int .i64 0, .int .i64 0, .int .i64 0, .int .i64 0, .int .i64 0, .string ⟨#[]⟩, .int .i64 0, .int .i64 0, .int .i64 0, .int .i64 0, .int .i64 0, .string ⟨#[]⟩, .int .i64 0, .int .i64 0, .int .i64 0, .int .i64 0, .int .i64 0, .string ⟨#[]⟩, .int .i64 0, .int .i64 0, .int .i64 0, .int .i64 0, .int .i64 0, .string ⟨#[]⟩, .int .i64 33, .int .i64 0, .int .i64 0, .int .i64 0, .int .i64 0, .string ⟨#[]⟩, .int .i64 0, .int .i64 0, .int .i64 0, .int .i64 0, .int .i64 0, .string ⟨#[]⟩, .int .i64 0, .int .i64 0, .int .i64 0, .int .i64 0, .int .i64 0, .string ⟨#[]⟩, .int .i64 0, .int .i64 0, .int .i64 0, .int .i64 0, .int .i64 0, .string ⟨#[]⟩] 58) = w0 at *
  generalize hg0 : (some (⟨w.heap.size, 0, none⟩ : Addr)) = a0 at *
  clear hg0
  have L0 := Lib.hid B0.out.size
  refine (new_ok [] _ _ (rd_nil _) (by decide)).mono ?_
  rintro e w1 ⟨V, rfl, s1, b1⟩
  have S1 := Lib.hid s1
  have K1 := Lib.hid b1
  clear s1 b1
  go_wp2_with ((with_reducible refine wpList_store_bk (T := 27) (op := ⟨none, .store 27 _ _, _, _, _, none⟩) rfl _ _ rfl Tryz.size27 w1.heap.size ZS (stCells (m0 []) V) ?sx ?sy ?sb ?s1 ?s2 ?s3 ?_); (case sx => rfl); (case sy => rfl); (case s1 => rfl); (case s2 => rfl); (case s3 => exact st_one (m0 []) V); (case sb => exact heap_alloc_new _ _))
  intro w2 hbl hg hsz
  have BL2 := (below_new w1 (.cells ZS 27)).grown hg (by simp) (by intro k hk; cases hk; omega)
  have SA2 := Lib.hid (S1.out.saN (grown_below BL2) hbl rfl)
  have K2 := Lib.hid (K1.out.trans (BL2.mono K1.out.size))
  have c1 : w2.cell? ⟨w1.heap.size, 1, none⟩ = some (.slice (some ⟨V.gm, 0, none⟩) 256 V.cm) := SA2.out.cell 1
  have kz := SA2.out.lt
  have kf := SA2.out.wordF 0
  have kw : w2.cell? ⟨V.gm, 0, none⟩ = some (.int .u32 0) := SA2.out.word (okc0 (xs := []) (by decide) (by simp)).ok (by decide)
  have kl := SA2.out.gm_lt
  have XZ := Lib.hid hbl
  have pm := SA2.out.pm
  have X3 := Lib.hid (show BK 27 (w2.setCell ⟨V.gm, 0, none⟩ (.int .u32 9)) w1.heap.size (stCells wkM V) from hbl.grown (grown_set w2 V.gm 0 (.int .u32 9)) (by intro e; injection e with e; omega))
  have SA3 := Lib.hid (show SA w0.heap.size (w2.setCell ⟨V.gm, 0, none⟩ (.int .u32 9)) w1.heap.size wkM V from SA2.out.setM 0 9)
  have K3 := Lib.hid (K2.out.setCell (p := ⟨V.gm, 0, none⟩) kl.1 (.int .u32 9))
  clear hbl hg hsz BL2 pm
  go_wp2_with ((with_reducible refine wpList_load_bk (T := 27) (op := ⟨some 24, .load 27 _, _, _, _, none⟩) rfl _ rfl Tryz.underlying27 Tryz.size27 w1.heap.size (stCells wkM V) ?lx ?lb ?ll ?_); (case lx => rfl); (case ll => rfl); (case lb => exact X3.out))
  generalize hw3 : w2.setCell ⟨V.gm, 0, none⟩ (.int .u32 9) = w3 at *
  have SV3 := Lib.hid (SA3.out.sr.sv wk_okc.ok.R wk_okc.ok.mem)
  clear c1 kf kw kl hw3 SA3
  generalize w1.heap.size = z at *
  clear kz
  refine (run_ok wkC wkM _ (.agg (stCells wkM V)) 3 _ (PG0.out.keep K3.out) wk_vcc SV3.out wk_okc (TT.out.below (B0.out.trans (K3.out.mono L0.out))) (by decide) (by decide) (by decide)).mono ?_
  rintro e w4 ⟨v4, rfl, s4, b4⟩
  rw [show (3 : Int).toNat = 3 from rfl] at s4 ⊢
  rw [wk3_n, show ((3 : Nat) : Int) = 3 from rfl]
  have K4 := Lib.hid (K3.out.trans (b4.mono K3.out.size))
  have X4 := Lib.hid (X3.out.below b4)
  have SV4 := Lib.hid (SV3.out.below b4)
  clear b4
  obtain ⟨r1, qq1, ii1, oo1, zz1, yy1, rfl, a1, a2, a3, a4, a5, a6⟩ := s4.sv
  have O1 := Lib.hid (one11 (a := (runC wkC 3 wkM).1.tk) (b := (runC wkC 3 wkM).1.pc) (s := (runC wkC 3 wkM).1.stop) (j := (runC wkC 3 wkM).1.jp) (d := (runC wkC 3 wkM).1.dl) a1.one a2.one a3.one a4.one a5.one a6.one)
  rw [wk3_R] at a1
  obtain ⟨A1, cr1, rfl, h1⟩ := a1
  obtain ⟨ad1, rfl, hal1, hc1⟩ := h1 (by decide)
  have D1 := Lib.hid (hc1 1 (.int .u32 0) rfl)
  have A1 := Lib.hid hal1
  generalize (runC wkC 3 wkM).1 = mm1 at *
  clear h1 hc1 hal1 a2 a3 a4 a5 a6 s4
  go_wp2_with ((with_reducible refine wpList_store_bk (T := 27) (op := ⟨none, .store 27 _ _, _, _, _, none⟩) rfl _ _ rfl Tryz.size27 w4.heap.size ZS #[.slice (some ad1) 16 cr1, qq1, ii1, .int .i64 mm1.tk, oo1, .int .i64 mm1.pc, zz1, .int .i64 mm1.stop, yy1, .int .i64 mm1.jp, .int .i64 mm1.dl] ?tx ?ty ?tb ?t1 ?t2 ?t3 ?_); (case tx => rfl); (case ty => rfl); (case t1 => rfl); (case t2 => rfl); (case t3 => exact O1.out); (case tb => exact heap_alloc_new _ _))
  intro w5 hbl hg hsz
  have BL5 := (below_new w4 (.cells ZS 27)).grown hg (by simp) (by intro k hk; cases hk; omega)
  have Y5 := Lib.hid hbl
  have X5 := Lib.hid (X4.out.below BL5)
  have SV5 := Lib.hid (SV4.out.below BL5)
  have K5 := Lib.hid (K4.out.trans (BL5.mono K4.out.size))
  have D5 := Lib.hid ((BL5.cell (p := ad1.add 1) (by rw [block_add]; exact A1.out)).trans D1.out)
  have A5 := Lib.hid (show (ad1.add 1).block < w5.heap.size by rw [block_add]; have := A1.out; have := BL5.size; omega)
  clear hbl hg hsz BL5
  generalize w4.heap.size = z1 at *
  go_wp2_with ((with_reducible refine wpList_load_bk (T := 27) (op := ⟨some 31, .load 27 _, _, _, _, none⟩) rfl _ rfl Tryz.underlying27 Tryz.size27 z (stCells wkM V) ?kx ?kb ?kl ?_); (case kx => rfl); (case kl => rfl); (case kb => exact X5.out))
  refine (run_ok wkC wkM _ (.agg (stCells wkM V)) 9 _ (PG0.out.keep K5.out) wk_vcc SV5.out wk_okc (TT.out.below (B0.out.trans (K5.out.mono L0.out))) (by decide) (by decide) (by decide)).mono ?_
  rintro e w6 ⟨v6, rfl, s6, b6⟩
  rw [show (9 : Int).toNat = 9 from rfl] at s6 ⊢
  rw [wk9_n, show ((4 : Nat) : Int) = 4 from rfl]
  have K6 := Lib.hid (K5.out.trans (b6.mono K5.out.size))
  have Y6 := Lib.hid (Y5.out.below b6)
  have D6 := Lib.hid ((b6.cell A5.out).trans D5.out)
  have A6 := Lib.hid (show (ad1.add 1).block < w6.heap.size by have := A5.out; have := b6.size; omega)
  clear b6
  obtain ⟨r2, qq2, ii2, oo2, zz2, yy2, rfl, a1, a2, a3, a4, a5, a6⟩ := s6.sv
  have O2 := Lib.hid (one11 (a := (runC wkC 9 wkM).1.tk) (b := (runC wkC 9 wkM).1.pc) (s := (runC wkC 9 wkM).1.stop) (j := (runC wkC 9 wkM).1.jp) (d := (runC wkC 9 wkM).1.dl) a1.one a2.one a3.one a4.one a5.one a6.one)
  rw [wk9_R] at a1
  obtain ⟨A2, cr2, rfl, h1⟩ := a1
  obtain ⟨ad2, rfl, hal2, hc2⟩ := h1 (by decide)
  have D2 := Lib.hid (hc2 1 (.int .u32 9) rfl)
  have A2 := Lib.hid hal2
  have E2 := Lib.hid wk9_stop
  generalize (runC wkC 9 wkM).1 = mm2 at *
  clear h1 hc2 hal2 a2 a3 a4 a5 a6 s6
  go_wp2_with ((with_reducible refine wpList_store_bk (T := 27) (op := ⟨none, .store 27 _ _, _, _, _, none⟩) rfl _ _ rfl Tryz.size27 w6.heap.size ZS #[.slice (some ad2) 16 cr2, qq2, ii2, .int .i64 mm2.tk, oo2, .int .i64 mm2.pc, zz2, .int .i64 mm2.stop, yy2, .int .i64 mm2.jp, .int .i64 mm2.dl] ?ux ?uy ?ub ?u1 ?u2 ?u3 ?_); (case ux => rfl); (case uy => rfl); (case u1 => rfl); (case u2 => rfl); (case u3 => exact O2.out); (case ub => exact heap_alloc_new _ _))
  intro w7 hbl hg hsz
  have BL7 := (below_new w6 (.cells ZS 27)).grown hg (by simp) (by intro k hk; cases hk; omega)
  have K7 := Lib.hid (K6.out.trans (BL7.mono K6.out.size))
  have Y7 := Y6.out.below BL7
  have d1 := (BL7.cell A6.out).trans D6.out
  have d2 := (BL7.cell (p := ad2.add 1) (by rw [block_add]; exact A2.out)).trans D2.out
  have d3 := d1
  have d4 := d2
  rw [add_pos _ _ (by decide)] at d3 d4
  rw [E2.out] at hbl
  have x0 : w7.cell? ⟨z1, 0, none⟩ = some (.slice (some ad1) 16 cr1) := Y7.cell 0
  have y0 : w7.cell? ⟨w6.heap.size, 0, none⟩ = some (.slice (some ad2) 16 cr2) := hbl.cell 0
  have y7 : w7.cell? ⟨w6.heap.size, 7, none⟩ = some (.int .i64 1) := hbl.cell 7
  have l1 := Y7.lt
  have l2 := hbl.lt
  clear hbl hg hsz BL7 Y7
  generalize w6.heap.size = z2 at *
  go_wp2_with (go_at_call 12; refine (num_any _ _).mono ?_; rintro e w' ⟨rfl, rfl⟩)
  go_ret
  exact ⟨rfl, B0.out.trans (K7.out.mono L0.out)⟩
end
section
theorem code_ok (C : List (List In5)) (pv : Value) (w : World) (hp : RdC w pv C) (vc : Vcc C) : Calls Tryz.prog 50 #[pv] w (BoolBelow true w) := by
  have := code_pg (C.map bX) pv w hp.raw (szsB_raw C)
  rw [vc.c] at this
  exact this
/-- What the loop keeps. -/
def Rl (g : Nat) (w : World) (i : Nat) (wr : World) : Prop := ∃ cs m, BK 27 wr g cs ∧ cs.size = 11 ∧ SV wr (.agg cs) m ∧ Okc m ∧ m.out.length ≤ 4 * i ∧ Below w.heap.size w wr
end
end Go.Proofs.YtbgmdikcbglpiaaGreatDoor
