/-
  Contracts of the statements' calls that weigh a script. Conditions: lengths below 2^50; names of at most the greatest length.
-/
import Derived.Test.YtpnmlednningkaaDoorWk
import Derived.Deep.RegionHeld3
namespace Go.Proofs.YtpnmlednningkaaDoor
open Go.RowKit

def WtPost (n : Nat) (w : World) (e : Ending) (w' : World) : Prop := ∃ x : Int, e = .returned (.int .i64 x) ∧ (n : Int) ≤ x ∧ x ≤ n + 2305843009213693952 ∧ w = w'
set_option maxHeartbeats 1000000 in
theorem weight_any (xs : List In6) (v : Value) (w : World) (h : RdI w v xs) (hs : szs xs) (hl : xs.length ≤ 1125899906842624) : Calls Tryd.prog 33 #[v] w (WtPost xs.length w) := by
  obtain ⟨A, c, rfl, hr⟩ := h
  have R := Lib.hid hr
  have S := Lib.hid hs
  generalize hn : xs.length = n at *
  have HN := Lib.hid hn
  clear hr hs hn
  go_enter Tryd.func33, Tryd.ntmps33
  go_wp2_with fail
  go_loop [3, 4] (fun a o => ∃ (i : Nat) (x : Int), i ≤ n ∧ o = .int .i64 i ∧ a = .int .i64 x ∧ (n : Int) ≤ x ∧ x ≤ n + 2305843009213693952) (fun _ o => n - (intOf o).toNat)
  case atStart => exact ⟨0, n, by omega, rfl, rfl, by omega, by omega⟩
  case round =>
    obtain ⟨i, x, hi, rfl, rfl, hx1, hx2⟩ := hrel
    by_cases hlt : i < n
    · have hd : decide ((i : Int) < (n : Int)) = true := by simpa using hlt
      by_cases hb : x < 1048576
      · have hd2 : decide (x < 1048576) = true := by simpa using hb
        have i0 : (0 : Int) ≤ (i : Int) := by omega
        have i1 : (i : Int) < (n : Int) := by omega
        obtain ⟨ad, rfl, hg, q⟩ := R.out (by omega)
        have hil : i < xs.length := by have := HN.out; omega
        obtain ⟨k0, k1, k2, k3, k4, k5⟩ := (q i _ (List.getElem?_eq_getElem hil)).k
        have hsz := S.out xs[i] (List.getElem_mem hil)
        have hgw : (ad.add (i * 6)).block < w.heap.size := by rw [block_add]; exact hg
        generalize xs[i].s = s at k5 hsz
        clear k0 k1 k2 k3 k4 q hg hil
        unfold maxLen at hsz
        have s0 : (0 : Int) ≤ (s.size : Int) := by omega
        have s1 : (s.size : Int) ≤ 9223372036854775807 := by omega
        go_wp2_with fail
        go_round
        case rel => exact ⟨i + 1, _, by omega, by go_num, rfl, by omega, by omega⟩
        case measure => simp [intOf]; omega
      · have hd2 : decide (x < 1048576) = false := by simpa using hb
        go_wp2_with fail
        go_ret
        exact ⟨x, rfl, hx1, hx2, rfl⟩
    · have hd : decide ((i : Int) < (n : Int)) = false := by simp; omega
      go_wp2_with fail
      go_ret
      exact ⟨x, rfl, hx1, hx2, rfl⟩
def stW (n1 n2 n3 n4 n5 n6 : Nat) : Int := n1 / 4 + n2 / 16 + n3 + n4 / 4 + n5 + n6
set_option maxHeartbeats 1000000 in
theorem stweight_any (A1 A2 A3 A4 A5 A6 : Option Addr) (n1 c1 n2 c2 n3 c3 n4 c4 n5 c5 n6 c6 : Nat) (tk pc stop j d : Int) (w : World) (h1 : n1 ≤ 1125899906842624) (h2 : n2 ≤ 1125899906842624) (h3 : n3 ≤ 1125899906842624) (h4 : n4 ≤ 1125899906842624) (h5 : n5 ≤ 1125899906842624) (h6 : n6 ≤ 1125899906842624) : Calls Tryd.prog 34 #[.agg #[.slice A1 n1 c1, .slice A2 n2 c2, .slice A3 n3 c3, .int .i64 tk, .slice A4 n4 c4, .int .i64 pc, .slice A5 n5 c5, .int .i64 stop, .slice A6 n6 c6, .int .i64 j, .int .i64 d]] w (IntBelow (stW n1 n2 n3 n4 n5 n6) w) := by
  have b1 : (0 : Int) ≤ n1 ∧ (n1 : Int) ≤ 1125899906842624 := by omega
  have b2 : (0 : Int) ≤ n2 ∧ (n2 : Int) ≤ 1125899906842624 := by omega
  have b3 : (0 : Int) ≤ n3 ∧ (n3 : Int) ≤ 1125899906842624 := by omega
  have b4 : (0 : Int) ≤ n4 ∧ (n4 : Int) ≤ 1125899906842624 := by omega
  have b5 : (0 : Int) ≤ n5 ∧ (n5 : Int) ≤ 1125899906842624 := by omega
  have b6 : (0 : Int) ≤ n6 ∧ (n6 : Int) ≤ 1125899906842624 := by omega
  clear h1 h2 h3 h4 h5 h6
  go_enter Tryd.func34, Tryd.ntmps34
  go_wp2
  go_ret
  exact intb_mk rfl (below_new _ _)
theorem BK.c14 {T : TypeId} {w : World} {g : Nat} {v0 v1 v2 v3 v4 v5 v6 v7 v8 v9 v10 v11 v12 v13 : Value} (h : BK T w g #[v0, v1, v2, v3, v4, v5, v6, v7, v8, v9, v10, v11, v12, v13]) :
    w.cell? ⟨g, 0, none⟩ = some v0 ∧ w.cell? ⟨g, 1, none⟩ = some v1 ∧ w.cell? ⟨g, 2, none⟩ = some v2 ∧ w.cell? ⟨g, 3, none⟩ = some v3 ∧ w.cell? ⟨g, 4, none⟩ = some v4 ∧ w.cell? ⟨g, 5, none⟩ = some v5 ∧ w.cell? ⟨g, 6, none⟩ = some v6 ∧ w.cell? ⟨g, 7, none⟩ = some v7 ∧ w.cell? ⟨g, 8, none⟩ = some v8 ∧ w.cell? ⟨g, 9, none⟩ = some v9 ∧ w.cell? ⟨g, 10, none⟩ = some v10 ∧ w.cell? ⟨g, 11, none⟩ = some v11 ∧ w.cell? ⟨g, 12, none⟩ = some v12 ∧ w.cell? ⟨g, 13, none⟩ = some v13 :=
  ⟨h.cell 0, h.cell 1, h.cell 2, h.cell 3, h.cell 4, h.cell 5, h.cell 6, h.cell 7, h.cell 8, h.cell 9, h.cell 10, h.cell 11, h.cell 12, h.cell 13⟩
def HvPost (n0 n1 n2 n3 n4 n5 n6 n7 n8 : Nat) (w : World) (e : Ending) (w' : World) : Prop := ∃ b : Bool, e = .returned (.bool b) ∧ Below w.heap.size w w' ∧ (b = false → n0 ≤ 700 ∧ n1 ≤ 3000 ∧ n2 ≤ 12000 ∧ n3 ≤ 700 ∧ n4 ≤ 3000 ∧ n5 ≤ 700 ∧ n6 ≤ 700 ∧ n7 ≤ 700 ∧ n8 ≤ 700)
theorem hv_mk {n0 n1 n2 n3 n4 n5 n6 n7 n8 : Nat} {x y : Int} {w w' : World} (h1 : n1 ≤ 1125899906842624) (h2 : n2 ≤ 1125899906842624) (h3 : n3 ≤ 1125899906842624) (h4 : n4 ≤ 1125899906842624) (h5 : n5 ≤ 1125899906842624) (h6 : n6 ≤ 1125899906842624) (h7 : n7 ≤ 1125899906842624) (h8 : n8 ≤ 1125899906842624) (h0 : n0 ≤ 1125899906842624) (hx1 : (n0 : Int) ≤ x) (hx2 : x ≤ n0 + 2305843009213693952) (hb : Below w.heap.size w w')
    (hy : y = IntKind.i64.wrap (IntKind.i64.wrap (IntKind.i64.wrap (x + stW n1 n2 n3 n4 n5 n6) + n7) + n8)) : HvPost n0 n1 n2 n3 n4 n5 n6 n7 n8 w (.returned (.bool (decide (700 < y)))) w' := by
  refine ⟨_, rfl, hb, fun h => ?_⟩
  unfold stW at hy
  rw [wrap_i64 (x + _) (by omega) (by omega), wrap_i64 (x + _ + n7) (by omega) (by omega), wrap_i64 _ (by omega) (by omega)] at hy
  simp only [decide_eq_false_iff_not] at h
  omega
set_option maxRecDepth 20000 in
set_option maxHeartbeats 2000000 in
theorem heavy_any (A0 A1 A2 A3 A4 A5 A6 A7 A8 : Option Addr) (n0 c0 n1 c1 n2 c2 n3 c3 n4 c4 n5 c5 n6 c6 n7 c7 n8 c8 : Nat) (tk pc stop j d : Int) (xs : List In6) (w : World) (h : RdI w (.slice A0 n0 c0) xs) (hn : xs.length = n0) (hs : szs xs) (h0 : n0 ≤ 1125899906842624) (h1 : n1 ≤ 1125899906842624) (h2 : n2 ≤ 1125899906842624) (h3 : n3 ≤ 1125899906842624) (h4 : n4 ≤ 1125899906842624) (h5 : n5 ≤ 1125899906842624) (h6 : n6 ≤ 1125899906842624) (h7 : n7 ≤ 1125899906842624) (h8 : n8 ≤ 1125899906842624) :
    Calls Tryd.prog 12 #[.agg #[.slice A0 n0 c0, .slice A1 n1 c1, .slice A2 n2 c2, .slice A3 n3 c3, .int .i64 tk, .slice A4 n4 c4, .int .i64 pc, .slice A5 n5 c5, .int .i64 stop, .slice A6 n6 c6, .int .i64 j, .int .i64 d, .slice A7 n7 c7, .slice A8 n8 c8]] w (HvPost n0 n1 n2 n3 n4 n5 n6 n7 n8 w) := by
  have C33 := Lib.hid (show ∀ W, Below w.heap.size w W → Calls Tryd.prog 33 #[.slice A0 n0 c0] W (WtPost n0 W) from fun W hb => by have := weight_any xs _ W (h.keep hb) hs (by omega); rw [hn] at this; exact this)
  have C34 := Lib.hid (fun W => stweight_any A1 A2 A3 A4 A5 A6 n1 c1 n2 c2 n3 c3 n4 c4 n5 c5 n6 c6 tk pc stop j d W h1 h2 h3 h4 h5 h6)
  have HM := Lib.hid (fun (x y : Int) (w' : World) => @hv_mk n0 n1 n2 n3 n4 n5 n6 n7 n8 x y w w' h1 h2 h3 h4 h5 h6 h7 h8 h0)
  clear h hn hs h0 h1 h2 h3 h4 h5 h6 h7 h8
  have X0 := Lib.hid (show BK 29 (w.alloc (.cells #[.slice A0 n0 c0, .slice A1 n1 c1, .slice A2 n2 c2, .slice A3 n3 c3, .int .i64 tk, .slice A4 n4 c4, .int .i64 pc, .slice A5 n5 c5, .int .i64 stop, .slice A6 n6 c6, .int .i64 j, .int .i64 d, .slice A7 n7 c7, .slice A8 n8 c8] 29)) w.heap.size #[.slice A0 n0 c0, .slice A1 n1 c1, .slice A2 n2 c2, .slice A3 n3 c3, .int .i64 tk, .slice A4 n4 c4, .int .i64 pc, .slice A5 n5 c5, .int .i64 stop, .slice A6 n6 c6, .int .i64 j, .int .i64 d, .slice A7 n7 c7, .slice A8 n8 c8] from heap_alloc_new w _)
  have G0 := Lib.hid (below_new w (.cells #[.slice A0 n0 c0, .slice A1 n1 c1, .slice A2 n2 c2, .slice A3 n3 c3, .int .i64 tk, .slice A4 n4 c4, .int .i64 pc, .slice A5 n5 c5, .int .i64 stop, .slice A6 n6 c6, .int .i64 j, .int .i64 d, .slice A7 n7 c7, .slice A8 n8 c8] 29))
  have K1 := Lib.hid (show (w.alloc (.cells #[.slice A0 n0 c0, .slice A1 n1 c1, .slice A2 n2 c2, .slice A3 n3 c3, .int .i64 tk, .slice A4 n4 c4, .int .i64 pc, .slice A5 n5 c5, .int .i64 stop, .slice A6 n6 c6, .int .i64 j, .int .i64 d, .slice A7 n7 c7, .slice A8 n8 c8] 29)).drew.cell? ⟨w.heap.size, 0, none⟩ = some (.slice A0 n0 c0) ∧ (w.alloc (.cells #[.slice A0 n0 c0, .slice A1 n1 c1, .slice A2 n2 c2, .slice A3 n3 c3, .int .i64 tk, .slice A4 n4 c4, .int .i64 pc, .slice A5 n5 c5, .int .i64 stop, .slice A6 n6 c6, .int .i64 j, .int .i64 d, .slice A7 n7 c7, .slice A8 n8 c8] 29)).drew.cell? ⟨w.heap.size, 1, none⟩ = some (.slice A1 n1 c1) ∧ (w.alloc (.cells #[.slice A0 n0 c0, .slice A1 n1 c1, .slice A2 n2 c2, .slice A3 n3 c3, .int .i64 tk, .slice A4 n4 c4, .int .i64 pc, .slice A5 n5 c5, .int .i64 stop, .slice A6 n6 c6, .int .i64 j, .int .i64 d, .slice A7 n7 c7, .slice A8 n8 c8] 29)).drew.cell? ⟨w.heap.size, 2, none⟩ = some (.slice A2 n2 c2) ∧ (w.alloc (.cells #[.slice A0 n0 c0, .slice A1 n1 c1, .slice A2 n2 c2, .slice A3 n3 c3, .int .i64 tk, .slice A4 n4 c4, .int .i64 pc, .slice A5 n5 c5, .int .i64 stop, .slice A6 n6 c6, .int .i64 j, .int .i64 d, .slice A7 n7 c7, .slice A8 n8 c8] 29)).drew.cell? ⟨w.heap.size, 3, none⟩ = some (.slice A3 n3 c3) ∧ (w.alloc (.cells #[.slice A0 n0 c0, .slice A1 n1 c1, .slice A2 n2 c2, .slice A3 n3 c3, .int .i64 tk, .slice A4 n4 c4, .int .i64 pc, .slice A5 n5 c5, .int .i64 stop, .slice A6 n6 c6, .int .i64 j, .int .i64 d, .slice A7 n7 c7, .slice A8 n8 c8] 29)).drew.cell? ⟨w.heap.size, 4, none⟩ = some (.int .i64 tk) ∧ (w.alloc (.cells #[.slice A0 n0 c0, .slice A1 n1 c1, .slice A2 n2 c2, .slice A3 n3 c3, .int .i64 tk, .slice A4 n4 c4, .int .i64 pc, .slice A5 n5 c5, .int .i64 stop, .slice A6 n6 c6, .int .i64 j, .int .i64 d, .slice A7 n7 c7, .slice A8 n8 c8] 29)).drew.cell? ⟨w.heap.size, 5, none⟩ = some (.slice A4 n4 c4) ∧ (w.alloc (.cells #[.slice A0 n0 c0, .slice A1 n1 c1, .slice A2 n2 c2, .slice A3 n3 c3, .int .i64 tk, .slice A4 n4 c4, .int .i64 pc, .slice A5 n5 c5, .int .i64 stop, .slice A6 n6 c6, .int .i64 j, .int .i64 d, .slice A7 n7 c7, .slice A8 n8 c8] 29)).drew.cell? ⟨w.heap.size, 6, none⟩ = some (.int .i64 pc) ∧ (w.alloc (.cells #[.slice A0 n0 c0, .slice A1 n1 c1, .slice A2 n2 c2, .slice A3 n3 c3, .int .i64 tk, .slice A4 n4 c4, .int .i64 pc, .slice A5 n5 c5, .int .i64 stop, .slice A6 n6 c6, .int .i64 j, .int .i64 d, .slice A7 n7 c7, .slice A8 n8 c8] 29)).drew.cell? ⟨w.heap.size, 7, none⟩ = some (.slice A5 n5 c5) ∧ (w.alloc (.cells #[.slice A0 n0 c0, .slice A1 n1 c1, .slice A2 n2 c2, .slice A3 n3 c3, .int .i64 tk, .slice A4 n4 c4, .int .i64 pc, .slice A5 n5 c5, .int .i64 stop, .slice A6 n6 c6, .int .i64 j, .int .i64 d, .slice A7 n7 c7, .slice A8 n8 c8] 29)).drew.cell? ⟨w.heap.size, 8, none⟩ = some (.int .i64 stop) ∧ (w.alloc (.cells #[.slice A0 n0 c0, .slice A1 n1 c1, .slice A2 n2 c2, .slice A3 n3 c3, .int .i64 tk, .slice A4 n4 c4, .int .i64 pc, .slice A5 n5 c5, .int .i64 stop, .slice A6 n6 c6, .int .i64 j, .int .i64 d, .slice A7 n7 c7, .slice A8 n8 c8] 29)).drew.cell? ⟨w.heap.size, 9, none⟩ = some (.slice A6 n6 c6) ∧ (w.alloc (.cells #[.slice A0 n0 c0, .slice A1 n1 c1, .slice A2 n2 c2, .slice A3 n3 c3, .int .i64 tk, .slice A4 n4 c4, .int .i64 pc, .slice A5 n5 c5, .int .i64 stop, .slice A6 n6 c6, .int .i64 j, .int .i64 d, .slice A7 n7 c7, .slice A8 n8 c8] 29)).drew.cell? ⟨w.heap.size, 10, none⟩ = some (.int .i64 j) ∧ (w.alloc (.cells #[.slice A0 n0 c0, .slice A1 n1 c1, .slice A2 n2 c2, .slice A3 n3 c3, .int .i64 tk, .slice A4 n4 c4, .int .i64 pc, .slice A5 n5 c5, .int .i64 stop, .slice A6 n6 c6, .int .i64 j, .int .i64 d, .slice A7 n7 c7, .slice A8 n8 c8] 29)).drew.cell? ⟨w.heap.size, 11, none⟩ = some (.int .i64 d) ∧ (w.alloc (.cells #[.slice A0 n0 c0, .slice A1 n1 c1, .slice A2 n2 c2, .slice A3 n3 c3, .int .i64 tk, .slice A4 n4 c4, .int .i64 pc, .slice A5 n5 c5, .int .i64 stop, .slice A6 n6 c6, .int .i64 j, .int .i64 d, .slice A7 n7 c7, .slice A8 n8 c8] 29)).drew.cell? ⟨w.heap.size, 12, none⟩ = some (.slice A7 n7 c7) ∧ (w.alloc (.cells #[.slice A0 n0 c0, .slice A1 n1 c1, .slice A2 n2 c2, .slice A3 n3 c3, .int .i64 tk, .slice A4 n4 c4, .int .i64 pc, .slice A5 n5 c5, .int .i64 stop, .slice A6 n6 c6, .int .i64 j, .int .i64 d, .slice A7 n7 c7, .slice A8 n8 c8] 29)).drew.cell? ⟨w.heap.size, 13, none⟩ = some (.slice A8 n8 c8) from X0.out.c14)
  have hzl : w.heap.size < (w.alloc (.cells #[.slice A0 n0 c0, .slice A1 n1 c1, .slice A2 n2 c2, .slice A3 n3 c3, .int .i64 tk, .slice A4 n4 c4, .int .i64 pc, .slice A5 n5 c5, .int .i64 stop, .slice A6 n6 c6, .int .i64 j, .int .i64 d, .slice A7 n7 c7, .slice A8 n8 c8] 29)).heap.size := X0.out.lt
  go_enter Tryd.func12, Tryd.ntmps12
  go_wp2_with fail
  go_region_held3 (fun w' => w'.cell? ⟨w.heap.size, 0, none⟩ = some (.slice A0 n0 c0) ∧ w'.cell? ⟨w.heap.size, 1, none⟩ = some (.slice A1 n1 c1) ∧ w'.cell? ⟨w.heap.size, 2, none⟩ = some (.slice A2 n2 c2) ∧ w'.cell? ⟨w.heap.size, 3, none⟩ = some (.slice A3 n3 c3) ∧ w'.cell? ⟨w.heap.size, 4, none⟩ = some (.int .i64 tk) ∧ w'.cell? ⟨w.heap.size, 5, none⟩ = some (.slice A4 n4 c4) ∧ w'.cell? ⟨w.heap.size, 6, none⟩ = some (.int .i64 pc) ∧ w'.cell? ⟨w.heap.size, 7, none⟩ = some (.slice A5 n5 c5) ∧ w'.cell? ⟨w.heap.size, 8, none⟩ = some (.int .i64 stop) ∧ w'.cell? ⟨w.heap.size, 9, none⟩ = some (.slice A6 n6 c6) ∧ w'.cell? ⟨w.heap.size, 10, none⟩ = some (.int .i64 j) ∧ w'.cell? ⟨w.heap.size, 11, none⟩ = some (.int .i64 d) ∧ w'.cell? ⟨w.heap.size, 12, none⟩ = some (.slice A7 n7 c7) ∧ w'.cell? ⟨w.heap.size, 13, none⟩ = some (.slice A8 n8 c8)) (first | with_reducible exact K1.out | with_reducible exact K2.out) (first | (go_at_call 33; refine (C33.out _ (by first | exact G0.out.drew | exact G2.out)).mono ?_; rintro e w' ⟨x, rfl, hx1, hx2, rfl⟩; have XX := Lib.hid (And.intro hx1 hx2); clear hx1 hx2) | (go_at_call 34; refine (C34.out _).mono ?_; rintro e w2 ⟨rfl, b2⟩; have K2 := Lib.hid (show w2.cell? ⟨w.heap.size, 0, none⟩ = some (.slice A0 n0 c0) ∧ w2.cell? ⟨w.heap.size, 1, none⟩ = some (.slice A1 n1 c1) ∧ w2.cell? ⟨w.heap.size, 2, none⟩ = some (.slice A2 n2 c2) ∧ w2.cell? ⟨w.heap.size, 3, none⟩ = some (.slice A3 n3 c3) ∧ w2.cell? ⟨w.heap.size, 4, none⟩ = some (.int .i64 tk) ∧ w2.cell? ⟨w.heap.size, 5, none⟩ = some (.slice A4 n4 c4) ∧ w2.cell? ⟨w.heap.size, 6, none⟩ = some (.int .i64 pc) ∧ w2.cell? ⟨w.heap.size, 7, none⟩ = some (.slice A5 n5 c5) ∧ w2.cell? ⟨w.heap.size, 8, none⟩ = some (.int .i64 stop) ∧ w2.cell? ⟨w.heap.size, 9, none⟩ = some (.slice A6 n6 c6) ∧ w2.cell? ⟨w.heap.size, 10, none⟩ = some (.int .i64 j) ∧ w2.cell? ⟨w.heap.size, 11, none⟩ = some (.int .i64 d) ∧ w2.cell? ⟨w.heap.size, 12, none⟩ = some (.slice A7 n7 c7) ∧ w2.cell? ⟨w.heap.size, 13, none⟩ = some (.slice A8 n8 c8) from (BK.below (w := (w.alloc (.cells #[.slice A0 n0 c0, .slice A1 n1 c1, .slice A2 n2 c2, .slice A3 n3 c3, .int .i64 tk, .slice A4 n4 c4, .int .i64 pc, .slice A5 n5 c5, .int .i64 stop, .slice A6 n6 c6, .int .i64 j, .int .i64 d, .slice A7 n7 c7, .slice A8 n8 c8] 29)).drew) X0.out b2).c14); have G2 := Lib.hid (G0.out.drew.trans (b2.mono (by simp [World.drew]))); clear b2))
  all_goals go_wp2
  all_goals go_ret
  all_goals exact HM.out x _ _ XX.out.1 XX.out.2 G2.out rfl
end Go.Proofs.YtpnmlednningkaaDoor
