/-
  Contracts of the page's call do: what an instruction does to a state, with its operands. Conditions: the state lies behind the pointer, and may be; the instruction may be.
-/
import Derived.Test.YtbgmdikcbglpiaaGreatDoorStp
import Derived.BigQuiet
import Derived.StillTailTactics
namespace Go.Proofs.YtbgmdikcbglpiaaGreatDoor
open Go.RowKit

/-- All blocks but those that a state's memory, outputs and returns lie in, and its own, are as they were. -/
def Far (p : Nat) (V : Vs) (w w' : World) : Prop := w.heap.size ≤ w'.heap.size ∧ ∀ g, g < w.heap.size → g ≠ p → g ≠ V.gm → ob V.ao ≠ some g → ob V.az ≠ some g → w'.heap[g]? = w.heap[g]?
section
variable {B p : Nat} {w w' w2 : World} {m : M} {V : Vs}
theorem Far.refl : Far p V w w := ⟨Nat.le_refl _, fun _ _ _ _ _ _ => rfl⟩
theorem Far.trans (h : Far p V w w') (h2 : Far p V w' w2) : Far p V w w2 := ⟨Nat.le_trans h.1 h2.1, fun g a b c d e => (h2.2 g (Nat.lt_of_lt_of_le a h.1) b c d e).trans (h.2 g a b c d e)⟩
theorem Far.below (h : Far p V w w') (hb : Below w'.heap.size w' w2) : Far p V w w2 := h.trans ⟨hb.size, fun g hg _ _ _ _ => hb.block g hg⟩
theorem Far.alloc (h : Far p V w w') (o : Obj) : Far p V w (w'.alloc o) := h.below (below_new _ _)
theorem Far.drewN (h : Far p V w w') (n : Nat) : Far p V w (w'.drewN n) := h
theorem Far.drew (h : Far p V w w') : Far p V w w'.drew := h
theorem Far.grown (h : Far p V w w') {r : Option Nat} (hg : w'.grownBy w2 r) (hr : ∀ g, r = some g → g = p ∨ g = V.gm ∨ ob V.ao = some g ∨ ob V.az = some g) : Far p V w w2 := by
  refine h.trans ⟨hg.size, fun g hgl b c d e => hg.block g hgl fun e2 => ?_⟩
  rcases hr g e2.symm with h1 | h1 | h1 | h1
  · exact b h1
  · exact c h1
  · exact d h1
  · exact e h1
theorem Far.setP (h : Far p V w w') (j : Nat) (u : Value) : Far p V w (w'.setCell ⟨p, j, none⟩ u) := h.grown (grown_set w' p j u) (fun g hg => .inl (by cases hg; rfl))
theorem Far.setM (h : Far p V w w') (j : Nat) (u : Value) : Far p V w (w'.setCell ⟨V.gm, j, none⟩ u) := h.grown (grown_set w' V.gm j u) (fun g hg => .inr (.inl (by cases hg; rfl)))
end
/-- Where the rows lie behind: where they lay, or in new blocks. -/
def Sh (w : World) (V V' : Vs) : Prop := V'.gm = V.gm ∧ V'.ai = V.ai ∧ V'.af = V.af ∧ (∀ g, g < w.heap.size → ob V'.ao = some g → ob V.ao = some g) ∧ (∀ g, g < w.heap.size → ob V'.az = some g → ob V.az = some g)
theorem Sh.refl (w : World) (V : Vs) : Sh w V V := ⟨rfl, rfl, rfl, fun _ _ h => h, fun _ _ h => h⟩
def DoPost (B p : Nat) (V : Vs) (has : Bool) (v : Int) (j : Bool) (to st : Int) (m' : M) (w : World) (e : Ending) (w' : World) : Prop :=
  e = .returned (.agg #[.bool has, .int .u32 v, .bool j, .int .i64 to, .int .i64 st]) ∧ (∃ V', SA B w' p m' V' ∧ V'.gr = V.gr ∧ V'.cr = V.cr ∧ Sh w V V') ∧ Below B w w' ∧ Far p V w w'
set_option maxRecDepth 20000 in
set_option maxHeartbeats 1000000 in
theorem do_word (B p : Nat) (x : In5) (a b back : Int) (m : M) (V : Vs) (w : World) (h : SA B w p m V) (h1 : 1 ≤ x.o) (h2 : x.o ≤ 17) (Ua : Wo.U32 a) (Ub : Wo.U32 b) (hz : ¬ (16 ≤ (x.o : Int) ∧ b = 0)) : Calls Tryz.prog 78 #[.pointer (some ⟨p, 0, none⟩), .agg x.cells, .int .u32 a, .int .u32 b, .int .i64 back] w (DoPost B p V true (Wo.wV x.o a b) false 0 0 m w) := by
  have R := Lib.hid (fun W => Wo.ref_good x.o a b W Ua Ub (by omega) (by omega) hz)
  clear hz
  have H := Lib.hid h
  clear h
  simp only [In5.cells]
  go_enter Tryz.func78, Tryz.ntmps78
  go_wp2_with (first | (go_at_call 93; refine (Wo.has_yes _ _ (by omega) (by omega)).mono ?_; rintro e w' ⟨rfl, rfl⟩) | (go_at_call 94; refine (R.out _).mono ?_; rintro e w' ⟨rfl, rfl⟩))
  exact bodyPost_ret (v := .agg #[.bool true, .int .u32 (Wo.wV x.o a b), .bool false, .int .i64 0, .int .i64 0]) (by simp [results, Tryz.results78, go_sem]) rfl ⟨rfl, ⟨_, (H.out.alloc _).alloc _, rfl, rfl, Sh.refl _ _⟩, (below_two _ _ _).mono H.out.B_le, (Far.refl.alloc _).alloc _⟩
set_option maxRecDepth 20000 in
set_option maxHeartbeats 1000000 in
theorem do_dz (B p : Nat) (x : In5) (a b back : Int) (m : M) (V : Vs) (w : World) (h : SA B w p m V) (h1 : 16 ≤ x.o) (h2 : x.o ≤ 17) (Ua : Wo.U32 a) (hz : b = 0) : Calls Tryz.prog 78 #[.pointer (some ⟨p, 0, none⟩), .agg x.cells, .int .u32 a, .int .u32 b, .int .i64 back] w (DoPost B p V false 0 false 0 3 m w) := by
  subst hz
  have R := Lib.hid (fun W => Wo.ref_zero x.o a W Ua (by omega) (by omega))
  have H := Lib.hid h
  clear h
  simp only [In5.cells]
  go_enter Tryz.func78, Tryz.ntmps78
  go_wp2_with (first | (go_at_call 93; refine (Wo.has_yes _ _ (by omega) (by omega)).mono ?_; rintro e w' ⟨rfl, rfl⟩) | (go_at_call 94; refine (R.out _).mono ?_; rintro e w' ⟨rfl, rfl⟩))
  exact bodyPost_ret (v := .agg #[.bool false, .int .u32 0, .bool false, .int .i64 0, .int .i64 3]) (by simp [results, Tryz.results78, go_sem]) rfl ⟨rfl, ⟨_, (H.out.alloc _).alloc _, rfl, rfl, Sh.refl _ _⟩, (below_two _ _ _).mono H.out.B_le, (Far.refl.alloc _).alloc _⟩
set_option maxRecDepth 20000 in
set_option maxHeartbeats 1000000 in
theorem do_pair (B p : Nat) (x : In5) (a b back : Int) (m : M) (V : Vs) (w : World) (h : SA B w p m V) (h1 : 18 ≤ x.o) (h2 : x.o ≤ 21) (Ua : Pa.U32 a) (Ub : Pa.U32 b) : Calls Tryz.prog 78 #[.pointer (some ⟨p, 0, none⟩), .agg x.cells, .int .u32 a, .int .u32 b, .int .i64 back] w (DoPost B p V true (Pa.pV x.o a b) false 0 0 m w) := by
  have R := Lib.hid (fun W => Pa.rpair_good x.o a b W Ua Ub (by omega) (by omega))
  have H := Lib.hid h
  clear h
  simp only [In5.cells]
  go_enter Tryz.func78, Tryz.ntmps78
  go_wp2_with (first | (go_at_call 93; refine (Wo.has_no _ _ (by omega)).mono ?_; rintro e w' ⟨rfl, rfl⟩) | (go_at_call 95; refine (Pa.refhas_yes _ _ (by omega) (by omega)).mono ?_; rintro e w' ⟨rfl, rfl⟩) | (go_at_call 96; refine (R.out _).mono ?_; rintro e w' ⟨rfl, rfl⟩))
  exact bodyPost_ret (v := .agg #[.bool true, .int .u32 (Pa.pV x.o a b), .bool false, .int .i64 0, .int .i64 0]) (by simp [results, Tryz.results78, go_sem]) rfl ⟨rfl, ⟨_, (H.out.alloc _).alloc _, rfl, rfl, Sh.refl _ _⟩, (below_two _ _ _).mono H.out.B_le, (Far.refl.alloc _).alloc _⟩
set_option maxRecDepth 20000 in
set_option maxHeartbeats 1000000 in
theorem do_addi (B p : Nat) (x : In5) (a b back : Int) (m : M) (V : Vs) (w : World) (h : SA B w p m V) (ho : x.o = 22) : Calls Tryz.prog 78 #[.pointer (some ⟨p, 0, none⟩), .agg x.cells, .int .u32 a, .int .u32 b, .int .i64 back] w (DoPost B p V true ((a + x.m % 4294967296) % 4294967296) false 0 0 m w) := by
  have t22 : ((x.o : Int) == 22) = true := by simp; omega
  have t23 : ((x.o : Int) == 23) = false := by simp; omega
  have t24 : ((x.o : Int) == 24) = false := by simp; omega
  have t25 : ((x.o : Int) == 25) = false := by simp; omega
  have t26 : ((x.o : Int) == 26) = false := by simp; omega
  have t27 : ((x.o : Int) == 27) = false := by simp; omega
  have t28 : ((x.o : Int) == 28) = false := by simp; omega
  have t29 : ((x.o : Int) == 29) = false := by simp; omega
  have t30 : ((x.o : Int) == 30) = false := by simp; omega
  have t31 : ((x.o : Int) == 31) = false := by simp; omega
  have t32 : ((x.o : Int) == 32) = false := by simp; omega
  have t33 : ((x.o : Int) == 33) = false := by simp; omega
  have H := Lib.hid h
  clear h
  simp only [In5.cells]
  go_enter Tryz.func78, Tryz.ntmps78
  go_wp2_with (first | (go_at_call 93; refine (Wo.has_no _ _ (by omega)).mono ?_; rintro e w' ⟨rfl, rfl⟩) | (go_at_call 95; refine (Pa.refhas_no _ _ (by omega)).mono ?_; rintro e w' ⟨rfl, rfl⟩))
  exact bodyPost_ret (v := .agg #[.bool true, .int .u32 ((a + x.m % 4294967296) % 4294967296), .bool false, .int .i64 0, .int .i64 0]) (by simp [results, Tryz.results78, go_sem]) rfl ⟨rfl, ⟨_, (H.out.alloc _).alloc _, rfl, rfl, Sh.refl _ _⟩, (below_two _ _ _).mono H.out.B_le, (Far.refl.alloc _).alloc _⟩
set_option maxRecDepth 20000 in
set_option maxHeartbeats 1000000 in
theorem do_li (B p : Nat) (x : In5) (a b back : Int) (m : M) (V : Vs) (w : World) (h : SA B w p m V) (ho : x.o = 23) : Calls Tryz.prog 78 #[.pointer (some ⟨p, 0, none⟩), .agg x.cells, .int .u32 a, .int .u32 b, .int .i64 back] w (DoPost B p V true (x.m % 4294967296) false 0 0 m w) := by
  have t22 : ((x.o : Int) == 22) = false := by simp; omega
  have t23 : ((x.o : Int) == 23) = true := by simp; omega
  have t24 : ((x.o : Int) == 24) = false := by simp; omega
  have t25 : ((x.o : Int) == 25) = false := by simp; omega
  have t26 : ((x.o : Int) == 26) = false := by simp; omega
  have t27 : ((x.o : Int) == 27) = false := by simp; omega
  have t28 : ((x.o : Int) == 28) = false := by simp; omega
  have t29 : ((x.o : Int) == 29) = false := by simp; omega
  have t30 : ((x.o : Int) == 30) = false := by simp; omega
  have t31 : ((x.o : Int) == 31) = false := by simp; omega
  have t32 : ((x.o : Int) == 32) = false := by simp; omega
  have t33 : ((x.o : Int) == 33) = false := by simp; omega
  have H := Lib.hid h
  clear h
  simp only [In5.cells]
  go_enter Tryz.func78, Tryz.ntmps78
  go_wp2_with (first | (go_at_call 93; refine (Wo.has_no _ _ (by omega)).mono ?_; rintro e w' ⟨rfl, rfl⟩) | (go_at_call 95; refine (Pa.refhas_no _ _ (by omega)).mono ?_; rintro e w' ⟨rfl, rfl⟩))
  exact bodyPost_ret (v := .agg #[.bool true, .int .u32 (x.m % 4294967296), .bool false, .int .i64 0, .int .i64 0]) (by simp [results, Tryz.results78, go_sem]) rfl ⟨rfl, ⟨_, (H.out.alloc _).alloc _, rfl, rfl, Sh.refl _ _⟩, (below_two _ _ _).mono H.out.B_le, (Far.refl.alloc _).alloc _⟩
set_option maxRecDepth 20000 in
set_option maxHeartbeats 1000000 in
theorem do_nop (B p : Nat) (x : In5) (a b back : Int) (m : M) (V : Vs) (w : World) (h : SA B w p m V) (ho : x.o = 0) : Calls Tryz.prog 78 #[.pointer (some ⟨p, 0, none⟩), .agg x.cells, .int .u32 a, .int .u32 b, .int .i64 back] w (DoPost B p V false 0 false 0 0 m w) := by
  have t22 : ((x.o : Int) == 22) = false := by simp; omega
  have t23 : ((x.o : Int) == 23) = false := by simp; omega
  have t24 : ((x.o : Int) == 24) = false := by simp; omega
  have t25 : ((x.o : Int) == 25) = false := by simp; omega
  have t26 : ((x.o : Int) == 26) = false := by simp; omega
  have t27 : ((x.o : Int) == 27) = false := by simp; omega
  have t28 : ((x.o : Int) == 28) = false := by simp; omega
  have t29 : ((x.o : Int) == 29) = false := by simp; omega
  have t30 : ((x.o : Int) == 30) = false := by simp; omega
  have t31 : ((x.o : Int) == 31) = false := by simp; omega
  have t32 : ((x.o : Int) == 32) = false := by simp; omega
  have t33 : ((x.o : Int) == 33) = false := by simp; omega
  have H := Lib.hid h
  clear h
  simp only [In5.cells]
  go_enter Tryz.func78, Tryz.ntmps78
  go_wp2_with (first | (go_at_call 93; refine (Wo.has_no _ _ (by omega)).mono ?_; rintro e w' ⟨rfl, rfl⟩) | (go_at_call 95; refine (Pa.refhas_no _ _ (by omega)).mono ?_; rintro e w' ⟨rfl, rfl⟩))
  exact bodyPost_ret (v := .agg #[.bool false, .int .u32 0, .bool false, .int .i64 0, .int .i64 0]) (by simp [results, Tryz.results78, go_sem]) rfl ⟨rfl, ⟨_, (H.out.alloc _).alloc _, rfl, rfl, Sh.refl _ _⟩, (below_two _ _ _).mono H.out.B_le, (Far.refl.alloc _).alloc _⟩
set_option maxRecDepth 20000 in
set_option maxHeartbeats 1000000 in
theorem do_halt (B p : Nat) (x : In5) (a b back : Int) (m : M) (V : Vs) (w : World) (h : SA B w p m V) (ho : x.o = 33) : Calls Tryz.prog 78 #[.pointer (some ⟨p, 0, none⟩), .agg x.cells, .int .u32 a, .int .u32 b, .int .i64 back] w (DoPost B p V false 0 false 0 1 m w) := by
  have t22 : ((x.o : Int) == 22) = false := by simp; omega
  have t23 : ((x.o : Int) == 23) = false := by simp; omega
  have t24 : ((x.o : Int) == 24) = false := by simp; omega
  have t25 : ((x.o : Int) == 25) = false := by simp; omega
  have t26 : ((x.o : Int) == 26) = false := by simp; omega
  have t27 : ((x.o : Int) == 27) = false := by simp; omega
  have t28 : ((x.o : Int) == 28) = false := by simp; omega
  have t29 : ((x.o : Int) == 29) = false := by simp; omega
  have t30 : ((x.o : Int) == 30) = false := by simp; omega
  have t31 : ((x.o : Int) == 31) = false := by simp; omega
  have t32 : ((x.o : Int) == 32) = false := by simp; omega
  have t33 : ((x.o : Int) == 33) = true := by simp; omega
  have H := Lib.hid h
  clear h
  simp only [In5.cells]
  go_enter Tryz.func78, Tryz.ntmps78
  go_wp2_with (first | (go_at_call 93; refine (Wo.has_no _ _ (by omega)).mono ?_; rintro e w' ⟨rfl, rfl⟩) | (go_at_call 95; refine (Pa.refhas_no _ _ (by omega)).mono ?_; rintro e w' ⟨rfl, rfl⟩))
  exact bodyPost_ret (v := .agg #[.bool false, .int .u32 0, .bool false, .int .i64 0, .int .i64 1]) (by simp [results, Tryz.results78, go_sem]) rfl ⟨rfl, ⟨_, (H.out.alloc _).alloc _, rfl, rfl, Sh.refl _ _⟩, (below_two _ _ _).mono H.out.B_le, (Far.refl.alloc _).alloc _⟩
set_option maxRecDepth 20000 in
set_option maxHeartbeats 1000000 in
theorem do_jmp (B p : Nat) (x : In5) (a b back : Int) (m : M) (V : Vs) (w : World) (h : SA B w p m V) (ho : x.o = 28) : Calls Tryz.prog 78 #[.pointer (some ⟨p, 0, none⟩), .agg x.cells, .int .u32 a, .int .u32 b, .int .i64 back] w (DoPost B p V false 0 true x.m 0 m w) := by
  have t22 : ((x.o : Int) == 22) = false := by simp; omega
  have t23 : ((x.o : Int) == 23) = false := by simp; omega
  have t24 : ((x.o : Int) == 24) = false := by simp; omega
  have t25 : ((x.o : Int) == 25) = false := by simp; omega
  have t26 : ((x.o : Int) == 26) = false := by simp; omega
  have t27 : ((x.o : Int) == 27) = false := by simp; omega
  have t28 : ((x.o : Int) == 28) = true := by simp; omega
  have t29 : ((x.o : Int) == 29) = false := by simp; omega
  have t30 : ((x.o : Int) == 30) = false := by simp; omega
  have t31 : ((x.o : Int) == 31) = false := by simp; omega
  have t32 : ((x.o : Int) == 32) = false := by simp; omega
  have t33 : ((x.o : Int) == 33) = false := by simp; omega
  have H := Lib.hid h
  clear h
  simp only [In5.cells]
  go_enter Tryz.func78, Tryz.ntmps78
  go_wp2_with (first | (go_at_call 93; refine (Wo.has_no _ _ (by omega)).mono ?_; rintro e w' ⟨rfl, rfl⟩) | (go_at_call 95; refine (Pa.refhas_no _ _ (by omega)).mono ?_; rintro e w' ⟨rfl, rfl⟩))
  exact bodyPost_ret (v := .agg #[.bool false, .int .u32 0, .bool true, .int .i64 x.m, .int .i64 0]) (by simp [results, Tryz.results78, go_sem]) rfl ⟨rfl, ⟨_, (H.out.alloc _).alloc _, rfl, rfl, Sh.refl _ _⟩, (below_two _ _ _).mono H.out.B_le, (Far.refl.alloc _).alloc _⟩
set_option maxRecDepth 20000 in
set_option maxHeartbeats 1000000 in
theorem do_bz (B p : Nat) (x : In5) (a b back : Int) (m : M) (V : Vs) (w : World) (h : SA B w p m V) (ho : x.o = 29) : Calls Tryz.prog 78 #[.pointer (some ⟨p, 0, none⟩), .agg x.cells, .int .u32 a, .int .u32 b, .int .i64 back] w (DoPost B p V false 0 (a == 0) x.m 0 m w) := by
  have t22 : ((x.o : Int) == 22) = false := by simp; omega
  have t23 : ((x.o : Int) == 23) = false := by simp; omega
  have t24 : ((x.o : Int) == 24) = false := by simp; omega
  have t25 : ((x.o : Int) == 25) = false := by simp; omega
  have t26 : ((x.o : Int) == 26) = false := by simp; omega
  have t27 : ((x.o : Int) == 27) = false := by simp; omega
  have t28 : ((x.o : Int) == 28) = false := by simp; omega
  have t29 : ((x.o : Int) == 29) = true := by simp; omega
  have t30 : ((x.o : Int) == 30) = false := by simp; omega
  have t31 : ((x.o : Int) == 31) = false := by simp; omega
  have t32 : ((x.o : Int) == 32) = false := by simp; omega
  have t33 : ((x.o : Int) == 33) = false := by simp; omega
  have H := Lib.hid h
  clear h
  simp only [In5.cells]
  go_enter Tryz.func78, Tryz.ntmps78
  go_wp2_with (first | (go_at_call 93; refine (Wo.has_no _ _ (by omega)).mono ?_; rintro e w' ⟨rfl, rfl⟩) | (go_at_call 95; refine (Pa.refhas_no _ _ (by omega)).mono ?_; rintro e w' ⟨rfl, rfl⟩))
  exact bodyPost_ret (v := .agg #[.bool false, .int .u32 0, .bool (a == 0), .int .i64 x.m, .int .i64 0]) (by simp [results, Tryz.results78, go_sem]) rfl ⟨rfl, ⟨_, (H.out.alloc _).alloc _, rfl, rfl, Sh.refl _ _⟩, (below_two _ _ _).mono H.out.B_le, (Far.refl.alloc _).alloc _⟩
set_option maxRecDepth 20000 in
set_option maxHeartbeats 1000000 in
theorem do_bnz (B p : Nat) (x : In5) (a b back : Int) (m : M) (V : Vs) (w : World) (h : SA B w p m V) (ho : x.o = 30) : Calls Tryz.prog 78 #[.pointer (some ⟨p, 0, none⟩), .agg x.cells, .int .u32 a, .int .u32 b, .int .i64 back] w (DoPost B p V false 0 (a != 0) x.m 0 m w) := by
  have t22 : ((x.o : Int) == 22) = false := by simp; omega
  have t23 : ((x.o : Int) == 23) = false := by simp; omega
  have t24 : ((x.o : Int) == 24) = false := by simp; omega
  have t25 : ((x.o : Int) == 25) = false := by simp; omega
  have t26 : ((x.o : Int) == 26) = false := by simp; omega
  have t27 : ((x.o : Int) == 27) = false := by simp; omega
  have t28 : ((x.o : Int) == 28) = false := by simp; omega
  have t29 : ((x.o : Int) == 29) = false := by simp; omega
  have t30 : ((x.o : Int) == 30) = true := by simp; omega
  have t31 : ((x.o : Int) == 31) = false := by simp; omega
  have t32 : ((x.o : Int) == 32) = false := by simp; omega
  have t33 : ((x.o : Int) == 33) = false := by simp; omega
  have H := Lib.hid h
  clear h
  simp only [In5.cells]
  go_enter Tryz.func78, Tryz.ntmps78
  go_wp2_with (first | (go_at_call 93; refine (Wo.has_no _ _ (by omega)).mono ?_; rintro e w' ⟨rfl, rfl⟩) | (go_at_call 95; refine (Pa.refhas_no _ _ (by omega)).mono ?_; rintro e w' ⟨rfl, rfl⟩))
  exact bodyPost_ret (v := .agg #[.bool false, .int .u32 0, .bool (a != 0), .int .i64 x.m, .int .i64 0]) (by simp [results, Tryz.results78, go_sem]) rfl ⟨rfl, ⟨_, (H.out.alloc _).alloc _, rfl, rfl, Sh.refl _ _⟩, (below_two _ _ _).mono H.out.B_le, (Far.refl.alloc _).alloc _⟩
end Go.Proofs.YtbgmdikcbglpiaaGreatDoor
