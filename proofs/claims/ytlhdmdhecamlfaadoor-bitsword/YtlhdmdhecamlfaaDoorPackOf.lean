/-
  Contracts of pack and unpack, and of what they ask for Imm. Conditions: the form is one; the fields are as the form has them, or the word is one of 32 bits.
-/
import Derived.Test.YtlhdmdhecamlfaaDoorPack
namespace Go.Proofs.YtlhdmdhecamlfaaDoor
open Go.RowKit

theorem lay_at : ∀ f : Fin 10, (ld f.1 = 0 ∨ ld f.1 = 14 ∨ ld f.1 = 18 ∨ ld f.1 = 22) ∧ (la f.1 = 0 ∨ la f.1 = 14 ∨ la f.1 = 18 ∨ la f.1 = 22) ∧ (lb f.1 = 0 ∨ lb f.1 = 14 ∨ lb f.1 = 18 ∨ lb f.1 = 22) := by decide
theorem lay_kinds : ∀ f : Fin 10, lm f.1 = 0 ∨ (stg f.1 = true ∧ lm f.1 = 14) ∨ (stg f.1 = true ∧ lm f.1 = 18) ∨ (stg f.1 = false ∧ lm f.1 = 14) ∨ (stg f.1 = false ∧ lm f.1 = 18) := by decide
theorem bt_lm : ∀ f : Fin 10, bt f.1 = (lm f.1 : Int) := by decide
theorem imm_tg {f : Nat} {m : Int} (h : immB f m = true) (ht : stg f = true) : 0 ≤ m ∧ m ≤ 1023 := by
  unfold immB at h; rw [ht] at h; simpa [numB] using h
theorem imm_14 {f : Nat} {m : Int} (hf : f < 10) (h : immB f m = true) (ht : stg f = false) (hl : lm f = 14) : -8192 ≤ m ∧ m < 8192 := by
  have e := bt_lm ⟨f, hf⟩
  simp only [hl] at e
  unfold immB at h; rw [ht, e] at h; simpa [wideB] using h
theorem imm_18 {f : Nat} {m : Int} (hf : f < 10) (h : immB f m = true) (ht : stg f = false) (hl : lm f = 18) : -131072 ≤ m ∧ m < 131072 := by
  have e := bt_lm ⟨f, hf⟩
  simp only [hl] at e
  unfold immB at h; rw [ht, e] at h; simpa [wideB] using h
theorem pim_0 {f : Nat} {m : Int} (h : lm f = 0) : pim f m = 0 := by unfold pim; rw [if_pos h]
theorem pim_14 {f : Nat} {m : Int} (h : lm f = 14) : pim f m = m % 16384 := by unfold pim; rw [h]; rfl
theorem pim_18 {f : Nat} {m : Int} (h : lm f = 18) : pim f m = m % 262144 := by unfold pim; rw [h]; rfl
theorem uim_0 {f : Nat} {m : Int} (h : lm f = 0) : uim f m = 0 := by unfold uim; rw [if_pos h]
theorem uim_t14 {f : Nat} {m : Int} (ht : stg f = true) (h : lm f = 14) : uim f m = m % 16384 := by unfold uim; rw [h, ht]; rfl
theorem uim_t18 {f : Nat} {m : Int} (ht : stg f = true) (h : lm f = 18) : uim f m = m % 262144 := by unfold uim; rw [h, ht]; rfl
theorem uim_14 {f : Nat} {m : Int} (ht : stg f = false) (h : lm f = 14) : uim f m = if m % 16384 < 8192 then m % 16384 else m % 16384 - 16384 := by unfold uim; rw [h, ht]; rfl
theorem uim_18 {f : Nat} {m : Int} (ht : stg f = false) (h : lm f = 18) : uim f m = if m % 262144 < 131072 then m % 262144 else m % 262144 - 262144 := by unfold uim; rw [h, ht]; rfl
section
variable (x0 x1 x2 k : Int) (t : Bool) (m : Int) (w : World)
theorem packImm_0 : Calls Tryd.prog 46 #[.agg #[.int .i64 x0, .int .i64 x1, .int .i64 x2, .int .i64 0, .bool t], .int .i64 m] w (WordTwo 0 0 w) := by
  go_enter Tryd.func46, Tryd.ntmps46
  go_wp2
  go_ret2
  exact ⟨rfl, below_new _ _⟩
theorem packImm_t (hk : (k == 0) = false) (h0 : 0 ≤ m) (h1 : m ≤ 1023) : Calls Tryd.prog 46 #[.agg #[.int .i64 x0, .int .i64 x1, .int .i64 x2, .int .i64 k, .bool true], .int .i64 m] w (WordTwo m 0 w) := by
  go_enter Tryd.func46, Tryd.ntmps46
  go_wp2
  go_ret2
  exact wtwo_mk (by omega) (below_new _ _)
theorem unpackImm_0 : Calls Tryd.prog 48 #[.agg #[.int .i64 x0, .int .i64 x1, .int .i64 x2, .int .i64 0, .bool t], .int .u32 m] w (NumTwo 0 0 w) := by
  go_enter Tryd.func48, Tryd.ntmps48
  go_wp2
  go_ret2
  exact ⟨rfl, below_new _ _⟩
theorem and14 (m : Int) (h0 : 0 ≤ m) (h1 : m ≤ 4294967295) : Go.bits .and .u32 m 16383 = m % 16384 := by
  rw [u32_and _ _ (by omega) (by omega) (by omega) (by omega)]
  have e : (16383 : Int).toNat = 16383 := rfl
  rw [e, nat_mask14]
  omega
theorem packImm_14 (h0 : -8192 ≤ m) (h1 : m < 8192) : Calls Tryd.prog 46 #[.agg #[.int .i64 x0, .int .i64 x1, .int .i64 x2, .int .i64 14, .bool false], .int .i64 m] w (WordTwo (m % 16384) 0 w) := by
  go_enter Tryd.func46, Tryd.ntmps46
  go_wp2_with (go_at_call 52; refine (cut14 _ _ h0 h1).mono ?_; rintro e w' ⟨rfl, rfl⟩)
  go_ret2
  exact wtwo_mk rfl (below_new _ _)
theorem unpackImm_t14 (h0 : 0 ≤ m) (h1 : m ≤ 4294967295) : Calls Tryd.prog 48 #[.agg #[.int .i64 x0, .int .i64 x1, .int .i64 x2, .int .i64 14, .bool true], .int .u32 m] w (NumTwo (m % 16384) 0 w) := by
  have e := and14 m h0 h1
  have h2 : 0 ≤ m % 16384 := by omega
  have h3 : m % 16384 < 16384 := by omega
  go_enter Tryd.func48, Tryd.ntmps48
  go_wp2
  go_ret2
  exact ntwo_mk (by first | omega | (rw [e]; omega)) (below_new _ _)
theorem unpackImm_lo14 (h0 : 0 ≤ m) (h1 : m ≤ 4294967295) (h : m % 16384 < 8192) : Calls Tryd.prog 48 #[.agg #[.int .i64 x0, .int .i64 x1, .int .i64 x2, .int .i64 14, .bool false], .int .u32 m] w (NumTwo (m % 16384) 0 w) := by
  have e := Lib.hid (and14 m h0 h1)
  have S := Lib.hid (fun W => sign14_lo (Go.bits .and .u32 m 16383) W (by rw [e.out]; omega) (by rw [e.out]; exact h))
  go_enter Tryd.func48, Tryd.ntmps48
  go_wp2_with (go_at_call 53; refine (S.out _).mono ?_; rintro e w' ⟨rfl, q, rfl⟩)
  go_ret2
  exact ntwo_mk e.out (below_drewN (below_new _ _) _)
theorem unpackImm_hi14 (h0 : 0 ≤ m) (h1 : m ≤ 4294967295) (h : 8192 ≤ m % 16384) : Calls Tryd.prog 48 #[.agg #[.int .i64 x0, .int .i64 x1, .int .i64 x2, .int .i64 14, .bool false], .int .u32 m] w (NumTwo (m % 16384 - 16384) 0 w) := by
  have e := Lib.hid (and14 m h0 h1)
  have S := Lib.hid (fun W => sign14_hi (Go.bits .and .u32 m 16383) W (by rw [e.out]; exact h) (by rw [e.out]; omega))
  go_enter Tryd.func48, Tryd.ntmps48
  go_wp2_with (go_at_call 53; refine (S.out _).mono ?_; rintro e w' ⟨rfl, q, rfl⟩)
  go_ret2
  exact ntwo_mk (by rw [e.out]) (below_drewN (below_new _ _) _)
theorem and18 (m : Int) (h0 : 0 ≤ m) (h1 : m ≤ 4294967295) : Go.bits .and .u32 m 262143 = m % 262144 := by
  rw [u32_and _ _ (by omega) (by omega) (by omega) (by omega)]
  have e : (262143 : Int).toNat = 262143 := rfl
  rw [e, nat_mask18]
  omega
theorem packImm_18 (h0 : -131072 ≤ m) (h1 : m < 131072) : Calls Tryd.prog 46 #[.agg #[.int .i64 x0, .int .i64 x1, .int .i64 x2, .int .i64 18, .bool false], .int .i64 m] w (WordTwo (m % 262144) 0 w) := by
  go_enter Tryd.func46, Tryd.ntmps46
  go_wp2_with (go_at_call 52; refine (cut18 _ _ h0 h1).mono ?_; rintro e w' ⟨rfl, rfl⟩)
  go_ret2
  exact wtwo_mk rfl (below_new _ _)
theorem unpackImm_t18 (h0 : 0 ≤ m) (h1 : m ≤ 4294967295) : Calls Tryd.prog 48 #[.agg #[.int .i64 x0, .int .i64 x1, .int .i64 x2, .int .i64 18, .bool true], .int .u32 m] w (NumTwo (m % 262144) 0 w) := by
  have e := and18 m h0 h1
  have h2 : 0 ≤ m % 262144 := by omega
  have h3 : m % 262144 < 262144 := by omega
  go_enter Tryd.func48, Tryd.ntmps48
  go_wp2
  go_ret2
  exact ntwo_mk (by first | omega | (rw [e]; omega)) (below_new _ _)
theorem unpackImm_lo18 (h0 : 0 ≤ m) (h1 : m ≤ 4294967295) (h : m % 262144 < 131072) : Calls Tryd.prog 48 #[.agg #[.int .i64 x0, .int .i64 x1, .int .i64 x2, .int .i64 18, .bool false], .int .u32 m] w (NumTwo (m % 262144) 0 w) := by
  have e := Lib.hid (and18 m h0 h1)
  have S := Lib.hid (fun W => sign18_lo (Go.bits .and .u32 m 262143) W (by rw [e.out]; omega) (by rw [e.out]; exact h))
  go_enter Tryd.func48, Tryd.ntmps48
  go_wp2_with (go_at_call 53; refine (S.out _).mono ?_; rintro e w' ⟨rfl, q, rfl⟩)
  go_ret2
  exact ntwo_mk e.out (below_drewN (below_new _ _) _)
theorem unpackImm_hi18 (h0 : 0 ≤ m) (h1 : m ≤ 4294967295) (h : 131072 ≤ m % 262144) : Calls Tryd.prog 48 #[.agg #[.int .i64 x0, .int .i64 x1, .int .i64 x2, .int .i64 18, .bool false], .int .u32 m] w (NumTwo (m % 262144 - 262144) 0 w) := by
  have e := Lib.hid (and18 m h0 h1)
  have S := Lib.hid (fun W => sign18_hi (Go.bits .and .u32 m 262143) W (by rw [e.out]; exact h) (by rw [e.out]; omega))
  go_enter Tryd.func48, Tryd.ntmps48
  go_wp2_with (go_at_call 53; refine (S.out _).mono ?_; rintro e w' ⟨rfl, q, rfl⟩)
  go_ret2
  exact ntwo_mk (by rw [e.out]) (below_drewN (below_new _ _) _)
end
theorem packImm_any (f : Nat) (m : Int) (w : World) (hf : f < 10) (im : immB f m = true) : Calls Tryd.prog 46 #[.agg #[.int .i64 (ld f), .int .i64 (la f), .int .i64 (lb f), .int .i64 (lm f), .bool (stg f)], .int .i64 m] w (WordTwo (pim f m) 0 w) := by
  rcases lay_kinds ⟨f, hf⟩ with h | ⟨ht, h⟩ | ⟨ht, h⟩ | ⟨ht, h⟩ | ⟨ht, h⟩
  · rw [pim_0 h, h]; exact packImm_0 _ _ _ _ _ _
  · obtain ⟨m0, m1⟩ := imm_tg im ht
    rw [pim_14 h, h, ht, Int.emod_eq_of_lt m0 (by omega)]; exact packImm_t _ _ _ _ _ _ rfl m0 m1
  · obtain ⟨m0, m1⟩ := imm_tg im ht
    rw [pim_18 h, h, ht, Int.emod_eq_of_lt m0 (by omega)]; exact packImm_t _ _ _ _ _ _ rfl m0 m1
  · obtain ⟨m0, m1⟩ := imm_14 hf im ht h
    rw [pim_14 h, h, ht]; exact packImm_14 _ _ _ _ _ m0 m1
  · obtain ⟨m0, m1⟩ := imm_18 hf im ht h
    rw [pim_18 h, h, ht]; exact packImm_18 _ _ _ _ _ m0 m1
theorem unpackImm_any (f : Nat) (m : Int) (w : World) (hf : f < 10) (m0 : 0 ≤ m) (m1 : m ≤ 4294967295) : Calls Tryd.prog 48 #[.agg #[.int .i64 (ld f), .int .i64 (la f), .int .i64 (lb f), .int .i64 (lm f), .bool (stg f)], .int .u32 m] w (NumTwo (uim f m) 0 w) := by
  rcases lay_kinds ⟨f, hf⟩ with h | ⟨ht, h⟩ | ⟨ht, h⟩ | ⟨ht, h⟩ | ⟨ht, h⟩
  · rw [uim_0 h, h]; exact unpackImm_0 _ _ _ _ _ _
  · rw [uim_t14 ht h, h, ht]; exact unpackImm_t14 _ _ _ _ _ m0 m1
  · rw [uim_t18 ht h, h, ht]; exact unpackImm_t18 _ _ _ _ _ m0 m1
  · rw [uim_14 ht h, h, ht]
    by_cases hh : m % 16384 < 8192
    · rw [if_pos hh]; exact unpackImm_lo14 _ _ _ _ _ m0 m1 hh
    · rw [if_neg hh]; exact unpackImm_hi14 _ _ _ _ _ m0 m1 (by omega)
  · rw [uim_18 ht h, h, ht]
    by_cases hh : m % 262144 < 131072
    · rw [if_pos hh]; exact unpackImm_lo18 _ _ _ _ _ m0 m1 hh
    · rw [if_neg hh]; exact unpackImm_hi18 _ _ _ _ _ m0 m1 (by omega)
theorem quietW {P : Program} {f : FuncId} {args : Array Value} {x : Int} (h : ∀ W : World, Calls P f args W (WordPost x W)) (w : World) (n : Nat) :
    Calls P f args (w.drewN n) fun e w'' => e = .returned (.int .u32 x) ∧ ∃ m, w'' = w.drewN m := (h _).mono fun _ _ ⟨he, hm⟩ => ⟨he, n, hm.symm⟩
set_option maxHeartbeats 1000000 in
theorem pack_any (n f : Nat) (d a b m : Int) (s : ByteArray) (w : World) (hn : n < 34) (hfm : fm n = f) (H : Fit n d a b m) :
    Calls Tryd.prog 30 #[.agg #[.int .i64 (ld f), .int .i64 (la f), .int .i64 (lb f), .int .i64 (lm f), .bool (stg f)], .agg #[.int .i64 n, .int .i64 d, .int .i64 a, .int .i64 b, .int .i64 m, .string s]] w (WordTwo (wd n d a b m) 0 w) := by
  have hf : f < 10 := hfm ▸ fm_lt hn
  have im : immB f m = true := hfm ▸ H.im
  obtain ⟨K1, K2, K3⟩ := lay_at ⟨f, hf⟩
  have OP := Lib.hid (or_pack hf hfm H (by omega))
  obtain ⟨d0, d1, a0, a1, b0, b1, _, _, _, _⟩ := H
  have L1 := Lib.hid K1
  have L2 := Lib.hid K2
  have L3 := Lib.hid K3
  clear K1 K2 K3
  have n0 : (0 : Int) ≤ (n : Int) := by omega
  have n1 : (n : Int) < 34 := by omega
  go_enter Tryd.func30, Tryd.ntmps30
  go_wp2_with fail
  refine (packImm_any _ _ _ hf im).mono ?_
  rintro e w1 ⟨rfl, hb⟩
  obtain ⟨q, hz, hB⟩ := box_cells hb
  obtain ⟨q', hz', hB'⟩ := box_cells hB
  have c0 : w1.cell? ⟨w.heap.size, 0, none⟩ = some (.int .i64 (ld f)) := q' 0
  have c1 : w1.cell? ⟨w.heap.size, 1, none⟩ = some (.int .i64 (la f)) := q' 1
  have c2 : w1.cell? ⟨w.heap.size, 2, none⟩ = some (.int .i64 (lb f)) := q' 2
  have ez : (w.alloc (.cells #[.int .i64 (ld f), .int .i64 (la f), .int .i64 (lb f), .int .i64 (lm f), .bool (stg f)] 68)).heap.size = w.heap.size + 1 := by simp
  rw [ez] at q hz
  have k0 : w1.cell? ⟨w.heap.size + 1, 0, none⟩ = some (.int .i64 n) := q 0
  have k1 : w1.cell? ⟨w.heap.size + 1, 1, none⟩ = some (.int .i64 d) := q 1
  have k2 : w1.cell? ⟨w.heap.size + 1, 2, none⟩ = some (.int .i64 a) := q 2
  have k3 : w1.cell? ⟨w.heap.size + 1, 3, none⟩ = some (.int .i64 b) := q 3
  have HB := Lib.hid hB'
  clear q q' hb hB hB' ez
  go_wp2_with fail
  go_quiet ((go_at_call 47; exact quietW (fun W => packReg_any _ _ W (by first | exact L1.out | exact L2.out | exact L3.out) (by assumption) (by assumption)) _ _))
  go_wp2
  go_ret2
  exact wtwo_mk OP.out (below_drewN HB.out _)
/-- A block that is one instruction. -/
def XB (w : World) (g : Nat) (o d a b m : Int) (s : ByteArray) : Prop := w.heap[g]? = some (.cells #[.int .i64 o, .int .i64 d, .int .i64 a, .int .i64 b, .int .i64 m, .string s] 35 (0, 0))
section
variable {w : World} {g : Nat} {o d a b m : Int} {s : ByteArray}
theorem XB.lt (h : XB w g o d a b m s) : g < w.heap.size := by
  rcases Nat.lt_or_ge g w.heap.size with h1 | h1
  · exact h1
  · unfold XB at h; rw [Array.getElem?_eq_none h1] at h; cases h
theorem XB.frozen (h : XB w g o d a b m s) (j : Nat) : w.frozen? ⟨g, j, none⟩ = false := by
  unfold XB at h
  simp [World.frozen?, h]
theorem XB.cells (h : XB w g o d a b m s) : w.cell? ⟨g, 0, none⟩ = some (.int .i64 o) ∧ w.cell? ⟨g, 1, none⟩ = some (.int .i64 d) ∧ w.cell? ⟨g, 2, none⟩ = some (.int .i64 a) ∧ w.cell? ⟨g, 3, none⟩ = some (.int .i64 b) ∧ w.cell? ⟨g, 4, none⟩ = some (.int .i64 m) ∧ w.cell? ⟨g, 5, none⟩ = some (.string s) := by
  unfold XB at h
  simp [World.cell?, h]
theorem XB.alloc (h : XB w g o d a b m s) (ob : Obj) : XB (w.alloc ob) g o d a b m s := (Below.heap_alloc w ob g h.lt).trans h
theorem XB.drew (h : XB w g o d a b m s) : XB w.drew g o d a b m s := h
theorem XB.drewN (h : XB w g o d a b m s) (n : Nat) : XB (w.drewN n) g o d a b m s := h
theorem XB.below {w' : World} (h : XB w g o d a b m s) (hb : Below w.heap.size w w') : XB w' g o d a b m s := (hb.block g h.lt).trans h
theorem XB.set1 (h : XB w g o d a b m s) (x : Int) : XB (w.setCell ⟨g, 1, none⟩ (.int .i64 x)) g o x a b m s := by
  unfold XB at h ⊢
  simp [World.setCell, Array.getElem?_modify, h]
theorem XB.set2 (h : XB w g o d a b m s) (x : Int) : XB (w.setCell ⟨g, 2, none⟩ (.int .i64 x)) g o d x b m s := by
  unfold XB at h ⊢
  simp [World.setCell, Array.getElem?_modify, h]
theorem XB.set3 (h : XB w g o d a b m s) (x : Int) : XB (w.setCell ⟨g, 3, none⟩ (.int .i64 x)) g o d a x m s := by
  unfold XB at h ⊢
  simp [World.setCell, Array.getElem?_modify, h]
theorem XB.set4 (h : XB w g o d a b m s) (x : Int) : XB (w.setCell ⟨g, 4, none⟩ (.int .i64 x)) g o d a b x s := by
  unfold XB at h ⊢
  simp [World.setCell, Array.getElem?_modify, h]
theorem XB.set5 (h : XB w g o d a b m s) (x : ByteArray) : XB (w.setCell ⟨g, 5, none⟩ (.string x)) g o d a b m x := by
  unfold XB at h ⊢
  simp [World.setCell, Array.getElem?_modify, h]
end
/-- An instruction and an error; new memory alone. -/
def InsTwo (o d a b m : Int) (c : Int) (w : World) (e : Ending) (w' : World) : Prop := e = .returned (.tuple #[.agg #[.int .i64 o, .int .i64 d, .int .i64 a, .int .i64 b, .int .i64 m, .string ⟨#[]⟩], .int .i64 c]) ∧ Below w.heap.size w w'
set_option maxHeartbeats 1000000 in
theorem unpack_any (n f : Nat) (x : Int) (w : World) (hf : f < 10) (x0 : 0 ≤ x) (x1 : x ≤ 4294967295) :
    Calls Tryd.prog 36 #[.agg #[.int .i64 (ld f), .int .i64 (la f), .int .i64 (lb f), .int .i64 (lm f), .bool (stg f)], .int .i64 n, .int .u32 x] w (InsTwo n (ur (ld f) x) (ur (la f) x) (ur (lb f) x) (uim f x) 0 w) := by
  obtain ⟨K1, K2, K3⟩ := lay_at ⟨f, hf⟩
  have L1 := Lib.hid K1
  have L2 := Lib.hid K2
  have L3 := Lib.hid K3
  clear K1 K2 K3
  go_enter Tryd.func36, Tryd.ntmps36
  go_wp2_with fail
  refine (unpackImm_any _ _ _ hf x0 x1).mono ?_
  rintro e w1 ⟨rfl, hb⟩
  obtain ⟨q, hz, hB⟩ := box_cells hb
  obtain ⟨q', hz', hB'⟩ := box_cells hB
  have c0 : w1.cell? ⟨w.heap.size, 0, none⟩ = some (.int .i64 (ld f)) := q' 0
  have c1 : w1.cell? ⟨w.heap.size, 1, none⟩ = some (.int .i64 (la f)) := q' 1
  have c2 : w1.cell? ⟨w.heap.size, 2, none⟩ = some (.int .i64 (lb f)) := q' 2
  have ez : (w.alloc (.cells #[.int .i64 (ld f), .int .i64 (la f), .int .i64 (lb f), .int .i64 (lm f), .bool (stg f)] 68)).heap.size = w.heap.size + 1 := by simp
  rw [ez] at q hz
  have hx : XB w1 (w.heap.size + 1) 0 0 0 0 0 ⟨#[]⟩ := XB.below (by rw [← ez]; exact heap_alloc_new _ _) hb
  have f0 := hx.frozen 0
  have f1 := hx.frozen 1
  have f2 := hx.frozen 2
  have f3 := hx.frozen 3
  have f4 := hx.frozen 4
  have f5 := hx.frozen 5
  obtain ⟨k0, k1, k2, k3, k4, k5⟩ := hx.cells
  have HX := Lib.hid hx
  have HB := Lib.hid hB'
  clear q q' hb hB hB' ez hx
  go_wp2_with fail
  go_region_held3 (fun w' => w'.cell? ⟨w.heap.size, 0, none⟩ = some (.int .i64 (ld f)) ∧ w'.cell? ⟨w.heap.size, 1, none⟩ = some (.int .i64 (la f)) ∧ w'.cell? ⟨w.heap.size, 2, none⟩ = some (.int .i64 (lb f))) (first | go_keep) (first | (go_at_call 49; refine (unpackReg_any _ _ _ (by first | exact L1.out | exact L2.out | exact L3.out) x0 x1).mono ?_; rintro e w' ⟨rfl, rfl⟩))
  go_wp2
  have z1 := HB.out.size
  exact bodyPost_ret (v := .tuple #[.agg #[.int .i64 n, .int .i64 (ur (ld f) x), .int .i64 (ur (la f) x), .int .i64 (ur (lb f) x), .int .i64 (uim f x), .string ⟨#[]⟩], .int .i64 0]) (by simp [results, Tryd.results36, go_sem, k0, k1, k2, k3, k4, k5]) rfl ⟨rfl, ((((((HB.out.setCell (by simp) _).setCell (by simp) _).setCell (by simp) _).setCell (by simp) _).setCell (by simp) _).setCell (by simp) _).drew⟩
end Go.Proofs.YtlhdmdhecamlfaaDoor
