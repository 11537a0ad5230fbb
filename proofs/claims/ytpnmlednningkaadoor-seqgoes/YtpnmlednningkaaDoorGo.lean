/-
  SeqGoes: what it leans on: outputs, and what was taken, only grow; what a script's program and state are, where they may be; the page's May and Begins. Conditions: the argument reads as a script.
-/
import Derived.Test.YtpnmlednningkaaDoorKd
namespace Go.Proofs.YtpnmlednningkaaDoor
open Go.RowKit

/-- What a step leaves. -/
structure Gr (m m' : M) : Prop where
  out : ∃ t, m'.out = m.out ++ t
  tk : m.tk ≤ m'.tk
  inp : m'.inp = m.inp
theorem Gr.refl (m : M) : Gr m m := ⟨⟨[], by simp⟩, Nat.le_refl _, rfl⟩
theorem Gr.trans {a b c : M} (h : Gr a b) (h2 : Gr b c) : Gr a c := by
  obtain ⟨t, ht⟩ := h.out
  obtain ⟨t2, ht2⟩ := h2.out
  exact ⟨⟨t ++ t2, by rw [ht2, ht, List.append_assoc]⟩, Nat.le_trans h.tk h2.tk, h2.inp.trans h.inp⟩
theorem gr_same {m m' : M} (h1 : m'.out = m.out) (h2 : m'.tk = m.tk) (h3 : m'.inp = m.inp) : Gr m m' := ⟨⟨[], by rw [h1]; simp⟩, by omega, h3⟩
theorem gr_stp (x : In5) (m : M) (v : Vi x) : Gr m (stp x m) := by
  rcases op_ways v.o with h | ⟨h1, h2⟩ | h | h | h | h | h | h | h | h | h | h | h
  · rw [stp0 h]; exact gr_same rfl rfl rfl
  · rw [stpA h1 h2]; split <;> exact gr_same rfl rfl rfl
  · rw [stp23 h]; exact gr_same rfl rfl rfl
  · rw [stp24 h]; split <;> exact gr_same rfl rfl rfl
  · rw [stp25 h]; split <;> exact gr_same rfl rfl rfl
  · rw [stp26 h]
    unfold tak
    split
    · exact gr_same rfl rfl rfl
    · exact ⟨⟨[], by simp [put]⟩, Nat.le_succ _, rfl⟩
  · rw [stp27 h]; exact ⟨⟨[m.reg x.a], rfl⟩, Nat.le_refl _, rfl⟩
  · rw [stp28 h]; exact gr_same rfl rfl rfl
  · rw [stp29 h]; exact gr_same rfl rfl rfl
  · rw [stp30 h]; exact gr_same rfl rfl rfl
  · rw [stp31 h]; split <;> exact gr_same rfl rfl rfl
  · rw [stp32 h]; split <;> exact gr_same rfl rfl rfl
  · rw [stp33 h]; exact gr_same rfl rfl rfl
theorem gr_step {P : List In5} (v : Vp P) (m : M) : Gr m (stepP P m) := by
  unfold stepP
  split
  · exact gr_same rfl rfl rfl
  · exact gr_stp _ _ (v.at_ (by omega))
theorem gr_run {P : List In5} (v : Vp P) (n : Nat) (m : M) : Gr m (runP P n m).1 := by
  induction n generalizing m with
  | zero => exact Gr.refl m
  | succ n ih =>
    by_cases hs : m.stop = 0
    · rw [runP_go hs]; exact (gr_step v m).trans (ih _)
    · rw [runP_stop hs]; exact Gr.refl m
/-- A state by its parts, if it may be. -/
theorem okk_of {R mem inp out : List Int} {st : List Int} {n6 : Nat} {tk pc stop j d : Int} (h : stB R.length mem.length inp.length n6 tk pc stop j d st = true) (wR : ∀ x ∈ R, 0 ≤ x ∧ x ≤ 4294967295) (wM : ∀ x ∈ mem, 0 ≤ x ∧ x ≤ 4294967295) (wI : ∀ x ∈ inp, 0 ≤ x ∧ x ≤ 4294967295) (ho : out.length ≤ 1000000) :
    ∃ m : M, Okk m ∧ m.R = R ∧ m.mem = mem ∧ m.inp = inp ∧ m.out = out ∧ m.st.map Int.ofNat = st ∧ (m.tk : Int) = tk ∧ (m.pc : Int) = pc ∧ m.stop = stop ∧ n6 = 0 ∧ j = 0 ∧ d = 0 := by
  unfold stB szB plsB plB at h
  simp only [Bool.and_eq_true, decide_eq_true_eq] at h
  obtain ⟨⟨⟨⟨⟨⟨⟨⟨⟨⟨h1, h2⟩, h3⟩, h4⟩, h5⟩, ⟨⟨h6, h6'⟩, h7⟩, h8⟩, h9⟩, h10⟩, h11⟩, h12⟩, h13⟩ := h
  have hst : ∀ x ∈ st, 0 ≤ x ∧ x ≤ 1024 := fun x hx => by
    have := List.all_eq_true.1 h8 x hx
    simpa [plB] using this
  have hmap : (st.map Int.toNat).map Int.ofNat = st := by
    rw [List.map_map]
    have : ∀ x ∈ st, (Int.ofNat ∘ Int.toNat) x = id x := fun x hx => by have := hst x hx; simp only [Function.comp, id]; show ((x.toNat : Nat) : Int) = x; omega
    rw [List.map_congr_left this, List.map_id]
  refine ⟨⟨R, mem, inp, tk.toNat, out, pc.toNat, st.map Int.toNat, stop⟩, ⟨⟨h1, h2, h3, by show tk.toNat ≤ inp.length; omega, by show pc.toNat ≤ 1024; omega, by show (st.map Int.toNat).length ≤ 16; rw [List.length_map]; exact h7, ho, wR, wM, wI, fun x hx => ?_⟩, h9, h10⟩, rfl, rfl, rfl, rfl, hmap, by show ((tk.toNat : Nat) : Int) = tk; omega, by show ((pc.toNat : Nat) : Int) = pc; omega, rfl, h11, h12, h13⟩
  obtain ⟨y, hy, rfl⟩ := List.mem_map.1 (show x ∈ st.map Int.toNat from hx)
  have := hst y hy
  omega
/-- A program, if it may be. -/
theorem prog_of {xs : List In6} (h : pgB xs = true) : ∃ P : List In5, P.map In5.raw = xs ∧ Vp P := by
  unfold pgB at h
  simp only [Bool.and_eq_true, decide_eq_true_eq] at h
  obtain ⟨hl, ha⟩ := h
  have key : ∀ l : List In6, l.all pB = true → ∃ P : List In5, P.map In5.raw = l ∧ ∀ x ∈ P, Vi x := by
    intro l
    induction l with
    | nil => exact fun _ => ⟨[], rfl, fun _ h => by cases h⟩
    | cons x l ih =>
      intro h
      simp only [List.all_cons, Bool.and_eq_true] at h
      obtain ⟨P, hP, hv⟩ := ih h.2
      have hx := h.1
      unfold pB at hx
      simp only [Bool.and_eq_true, decide_eq_true_eq] at hx
      obtain ⟨y, hy, hvy⟩ := in5_of (empty_of hx.1) hx.2
      exact ⟨y :: P, by rw [List.map_cons, hy, hP], fun z hz => by rcases List.mem_cons.1 hz with rfl | hz; exact hvy; exact hv z hz⟩
  obtain ⟨P, hP, hv⟩ := key xs ha
  exact ⟨P, hP, ⟨by rw [← hP, List.length_map] at hl; exact hl, hv⟩⟩
set_option maxHeartbeats 1000000 in
theorem begins_any (l t : List Int) (v1 v2 : Value) (w : World) (h1 : Rd .u32 w v1 (l ++ t)) (h2 : Rd .u32 w v2 l) (hl : l.length ≤ 1000000) (hc : ∀ A n c, v1 = .slice A n c → n ≤ c) : Calls Tryd.prog 29 #[v1, v2] w (QuietBool true w) := by
  obtain ⟨A1, c1, rfl, r1⟩ := h1
  have hcc := hc _ _ _ rfl
  have EQ := Lib.hid (fun (W : World) (hW : W = w) => eq_w l (.slice A1 l.length c1) v2 W (by subst hW; exact ⟨A1, c1, rfl, fun h0 => by obtain ⟨ad, ha, hb, hq⟩ := r1 (by rw [List.length_append]; omega); exact ⟨ad, ha, hb, fun j u hu => hq j u (by rw [List.map_append, List.getElem?_append_left (by have := (List.getElem?_eq_some_iff.1 hu).1; exact this)]; exact hu)⟩⟩) (by subst hW; exact h2) hl)
  obtain ⟨A2, c2, rfl, r2⟩ := h2
  rw [List.length_append] at hcc ⊢
  have t0 : decide ((l.length : Int) ≤ ((l.length + t.length : Nat) : Int)) = true := by simp; omega
  generalize l.length = n at *
  generalize t.length = k at *
  clear r1 r2 hc
  go_enter Tryd.func29, Tryd.ntmps29
  go_wp2_with fail
  refine (EQ.out _ rfl).mono ?_
  rintro e w' ⟨rfl, kk, rfl⟩
  go_wp2
  go_ret
  exact ⟨rfl, kk, rfl⟩
set_option maxRecDepth 20000 in
set_option maxHeartbeats 2000000 in
theorem may_sc (A0 A1 A2 A3 A4 A5 A6 A7 A8 : Option Addr) (n0 c0 n1 c1 n2 c2 n3 c3 n4 c4 c5 n6 c6 n7 c7 n8 c8 : Nat) (tk pc stop j d : Int) (l : List Int) (xs : List In6) (w : World) (hx : RdI w (.slice A0 n0 c0) xs) (hs : szs xs) (h : Rd .i64 w (.slice A5 l.length c5) l) (hl : l.length ≤ 1000000) (b1 b2 : Bool) (hb1 : pgB xs = b1) (hb2 : stB n1 n2 n3 n6 tk pc stop j d l = b2) : Calls Tryd.prog 22 #[.agg #[.slice A0 n0 c0, .slice A1 n1 c1, .slice A2 n2 c2, .slice A3 n3 c3, .int .i64 tk, .slice A4 n4 c4, .int .i64 pc, .slice A5 l.length c5, .int .i64 stop, .slice A6 n6 c6, .int .i64 j, .int .i64 d, .slice A7 n7 c7, .slice A8 n8 c8]] w (BoolBelow (b1 && b2) w) := by
  have PG := Lib.hid (program_is xs _ b1 _ (hx.keep (below_new w (.cells #[.slice A0 n0 c0, .slice A1 n1 c1, .slice A2 n2 c2, .slice A3 n3 c3, .int .i64 tk, .slice A4 n4 c4, .int .i64 pc, .slice A5 l.length c5, .int .i64 stop, .slice A6 n6 c6, .int .i64 j, .int .i64 d, .slice A7 n7 c7, .slice A8 n8 c8] 29))) hs hb1)
  have SP := Lib.hid (fun W (hb : Below w.heap.size w W) => state_pg A1 A2 A3 A5 A6 n1 c1 n2 c2 n3 c3 c5 n6 c6 tk pc stop j d (.slice A4 n4 c4) l W (h.below hb) hl b2 hb2)
  have X0 := Lib.hid (show BK 29 (w.alloc (.cells #[.slice A0 n0 c0, .slice A1 n1 c1, .slice A2 n2 c2, .slice A3 n3 c3, .int .i64 tk, .slice A4 n4 c4, .int .i64 pc, .slice A5 l.length c5, .int .i64 stop, .slice A6 n6 c6, .int .i64 j, .int .i64 d, .slice A7 n7 c7, .slice A8 n8 c8] 29)) w.heap.size #[.slice A0 n0 c0, .slice A1 n1 c1, .slice A2 n2 c2, .slice A3 n3 c3, .int .i64 tk, .slice A4 n4 c4, .int .i64 pc, .slice A5 l.length c5, .int .i64 stop, .slice A6 n6 c6, .int .i64 j, .int .i64 d, .slice A7 n7 c7, .slice A8 n8 c8] from heap_alloc_new w _)
  have G0 := Lib.hid (below_new w (.cells #[.slice A0 n0 c0, .slice A1 n1 c1, .slice A2 n2 c2, .slice A3 n3 c3, .int .i64 tk, .slice A4 n4 c4, .int .i64 pc, .slice A5 l.length c5, .int .i64 stop, .slice A6 n6 c6, .int .i64 j, .int .i64 d, .slice A7 n7 c7, .slice A8 n8 c8] 29))
  clear hx hs h hl hb1 hb2
  generalize l.length = n5 at *
  go_enter Tryd.func22, Tryd.ntmps22
  go_wp2_with fail
  refine PG.out.mono ?_
  rintro e w1 ⟨rfl, h1⟩
  have X1 := Lib.hid (X0.out.below h1)
  have G1 := Lib.hid (G0.out.trans (h1.mono (by simp)))
  clear h1
  obtain ⟨q0, q1, q2, q3, q4, q5, q6, q7, q8, q9, q10, q11, q12, q13⟩ := X1.out.c14
  have hl1 := X1.out.lt
  cases b1
  · go_wp2
    go_ret
    exact ⟨rfl, G1.out⟩
  · go_wp2_with fail
    refine (SP.out _ G1.out).mono ?_
    rintro e w2 ⟨rfl, h2⟩
    have G2 := Lib.hid (G1.out.trans (h2.mono G1.out.size))
    clear h2 q0 q1 q2 q3 q4 q5 q6 q7 q8 q9 q10 q11 q12 q13 hl1
    go_wp2
    go_ret
    exact ⟨rfl, G2.out⟩
end Go.Proofs.YtpnmlednningkaaDoor
