/-
  Contract of "ops": whatever words come in, for any ops from low to high within 1 to 17, it returns true: the program tells what the page tells, at the words that came and at those made here. Nothing that was there has turned.
-/
import Derived.Test.YtkmpfgaedjmadaaCalls
import Derived.Deep.QuietTactic
import Derived.BigQuiet
import Derived.Deep.RegionHeld3
namespace Go.Proofs.Ytkmpfgaedjmadaa
open Go.RowKit

theorem wrap_ok (x : Int) : U32 (IntKind.u32.wrap x) := by rw [IntKind.wrap_u32]; unfold U32; omega

theorem grow_next {B g m cap gg cap2 : Nat} {w wr w2 : World} {xs ys : List Int} {o : Obj} (h : Owned wr B g m cap xs) (hb : Below B w wr) (hys : ∀ y ∈ ys, U32 y) (hB : B ≤ wr.heap.size)
    (hown : w2.ownsRow B 28 1 (.slice (some ⟨gg, 0, none⟩) (m + 3) cap2) (m + 3) (xs.map (Value.int .u32) ++ ys.map (Value.int .u32))) (hg : (wr.alloc o).drew.grownBy w2 (Value.slice (some ⟨g, 0, none⟩) m cap).ownBlock) :
    Owned w2 B gg (m + 3) cap2 (xs ++ ys) ∧ Below B w w2 := by
  refine ⟨⟨by rw [List.map_append]; exact hown, ?_⟩, ?_⟩
  · intro x hx
    rcases List.mem_append.1 hx with h' | h'
    · exact h.2 x h'
    · exact hys x h'
  · refine ((hb.alloc hB o).drew).grown hg (by simp; omega) ?_
    intro k hk
    exact (h.1.lt k hk).1

set_option maxHeartbeats 1000000 in
set_option maxRecDepth 100000 in
theorem ops_any (w : World) (A A2 : Option Addr) (n c n2 c2 : Nat) (low high : Int) (hlow : 1 ≤ low) (hlow2 : low ≤ 17) (hhigh : high ≤ 17) (hin : SliceIn .u32 4 w A n c) :
    Calls Try.prog 25 #[.agg #[.slice A n c, .slice A2 n2 c2], .int .i64 low, .int .i64 high] w (TruePost w) := by
  have HI := Lib.hid hin
  clear hin
  go_enter Try.func25, Try.ntmps25
  go_wp2_with (go_at_call 12; refine (words_any (HI.out.alloc _) _ _ _).mono ?_; rintro e w1 ⟨g, m, cap, xs, rfl, hm, hown, hb⟩)
  have HO := Lib.hid (hown.mono (base' := w.heap.size) (by simp))
  have HB := Lib.hid (((Below.refl _ _).alloc (Nat.le_refl _) _).trans (hb.mono (by simp)))
  clear hown hb
  go_loopw [7, 8] (fun l k wr => ∃ (κ g m cap : Nat) (xs : List Int), κ ≤ 34 ∧ k = .int .i64 κ ∧ l = .slice (some ⟨g, 0, none⟩) m cap ∧ m ≤ 22 + κ ∧ Owned wr w.heap.size g m cap xs ∧ Below w.heap.size w wr) (fun _ k _ => 34 - (intOf k).toNat)
  case atStart => exact ⟨0, g, m, cap, xs, by omega, rfl, rfl, by omega, HO.out, HB.out⟩
  case round =>
    obtain ⟨κ, g, m, cap, xs, hκ, rfl, rfl, hm, hown, hb⟩ := hrel
    have HO := Lib.hid hown
    have HB := Lib.hid hb
    clear hown hb
    by_cases hlt : κ < 32
    · obtain ⟨i0, hi, hz0, hz1, hz2⟩ := info_parts Try.info28
      have HI0 := Lib.hid hi
      have HZ0 := Lib.hid hz0
      have HZ1 := Lib.hid hz1
      have HZ2 := Lib.hid hz2
      clear hi hz0 hz1 hz2
      go_wp2_with fail
      go_region_held3 (fun _ => True) (trivial) ((refine step_append_lies _ (by rfl) _ _ _ (by rfl) w.heap.size 28 i0 _ 1 4 Try.underlying22 HI0.out HZ0.out HZ1.out HZ2.out rfl (by omega) (.slice (some ⟨g, 0, none⟩) m cap) m (xs.map (Value.int .u32)) (by rfl) ((HO.out.1.alloc _).drew) ⟨wr.heap.size, 0, none⟩ 3 3 ([IntKind.u32.wrap (2 ^ κ), IntKind.u32.wrap (IntKind.u32.wrap (2 ^ κ) - 1), IntKind.u32.wrap (4294967295 * 2 ^ κ)].map (Value.int .u32)) (by rfl) (by rfl) (World.news_of_block (cs := #[.int .u32 (IntKind.u32.wrap (2 ^ κ)), .int .u32 (IntKind.u32.wrap (IntKind.u32.wrap (2 ^ κ) - 1)), .int .u32 (IntKind.u32.wrap (4294967295 * 2 ^ κ))]) (t := 28) (fr := (0, 0)) (heap_alloc_new wr _)) (ints_oneCell _ _) (by omega) (by unfold maxLen; omega) (by omega) (by simp; exact Nat.le_succ_of_le HB.out.size) (wr.heap.size + 1) (by simp) ?_; intro gg cap2 w2 hown2 hgrow hat hlt2))
      have R := grow_next HO.out HB.out (by intro y hy; simp at hy; rcases hy with rfl | rfl | rfl <;> exact wrap_ok _) HB.out.size hown2 hgrow
      have HR := Lib.hid R
      clear R hown2 hgrow hat hlt2
      go_wp2
      go_roundw
      case rel => exact ⟨κ + 3, gg, m + 3, cap2, _, by omega, by go_num, rfl, by omega, HR.out.1, HR.out.2⟩
      case measure => simp [intOf]; omega
    · have hd : decide ((κ : Int) < 32) = false := by simp; omega
      go_wp2_with fail
      go_loopw [9] (fun o wr2 => ∃ op : Int, low ≤ op ∧ op ≤ 18 ∧ o = .int .i64 op ∧ Owned wr2 w.heap.size g m cap xs ∧ Below w.heap.size w wr2) (fun o _ => (18 - intOf o).toNat)
      case atStart => exact ⟨low, Int.le_refl _, by omega, rfl, HO.out, HB.out⟩
      case round =>
        clear HO HB
        obtain ⟨op, hop1, hop2, rfl, hown, hb⟩ := hrel
        have HO := Lib.hid hown
        have HB := Lib.hid hb
        clear hown hb
        by_cases hle : op ≤ high
        · have hd2 : decide (op ≤ high) = true := by simpa using hle
          go_wp2_with fail
          go_loopw [10] (fun o wr2 => ∃ i : Nat, i ≤ m ∧ o = .int .i64 i ∧ Owned wr2 w.heap.size g m cap xs ∧ Below w.heap.size w wr2) (fun o _ => m - (intOf o).toNat)
          case atStart => exact ⟨0, by omega, rfl, HO.out, HB.out⟩
          case round =>
            clear HO HB
            obtain ⟨i, hi, rfl, hown, hb⟩ := hrel
            have HO := Lib.hid hown
            have HB := Lib.hid hb
            clear hown hb
            by_cases hilt : i < m
            · have hd3 : decide ((i : Int) < (m : Int)) = true := by simpa using hilt
              go_wp2_with fail
              go_loopw [11] (fun o wr2 => ∃ k : Nat, k ≤ m ∧ o = .int .i64 k ∧ Owned wr2 w.heap.size g m cap xs ∧ Below w.heap.size w wr2) (fun o _ => m - (intOf o).toNat)
              case atStart => exact ⟨0, by omega, rfl, HO.out, HB.out⟩
              case round =>
                clear HO HB
                obtain ⟨k, hk, rfl, hown, hb⟩ := hrel
                have HO := Lib.hid hown
                have HB := Lib.hid hb
                clear hown hb
                by_cases hklt : k < m
                · have hd4 : decide ((k : Int) < (m : Int)) = true := by simpa using hklt
                  obtain ⟨x, hx, hcx⟩ := HO.out.at_ hilt
                  obtain ⟨y, hy, hcy⟩ := HO.out.at_ hklt
                  have hi0 : (0 : Int) ≤ (i : Int) := by omega
                  have hi1 : (i : Int) < (m : Int) := by omega
                  have hk0 : (0 : Int) ≤ (k : Int) := by omega
                  have hk1 : (k : Int) < (m : Int) := by omega
                  by_cases hz : 16 ≤ op ∧ y = 0
                  · obtain ⟨h16, rfl⟩ := hz
                    have c1 := Lib.hid (of_quiet0 op x hx h16 (by omega))
                    have c2 := Lib.hid (ref_quiet0 op x hx h16 (by omega))
                    go_wp2_with fail
                    go_quiet ((go_at_call 15; exact quietFirst c1.out _ _))
                    go_wp2_with fail
                    go_quiet ((go_at_call 16; exact quietNext c2.out _ _ _))
                    go_wp2
                    go_roundw
                    case rel => exact ⟨k + 1, by omega, by go_num, HO.out.drewN _, below_drewN HB.out _⟩
                    case measure => simp [intOf]; omega
                  · have c1 := Lib.hid (of_quiet op x y hx hy (by omega) (by omega) hz)
                    have c2 := Lib.hid (ref_quiet op x y hx hy (by omega) (by omega) hz)
                    have hne : (wV op x y != wV op x y) = false := by simp
                    clear hz
                    go_wp2_with fail
                    go_quiet ((go_at_call 15; exact quietFirst c1.out _ _))
                    go_wp2_with fail
                    go_quiet ((go_at_call 16; exact quietNext c2.out _ _ _))
                    go_wp2
                    go_roundw
                    case rel => exact ⟨k + 1, by omega, by go_num, HO.out.drewN _, below_drewN HB.out _⟩
                    case measure => simp [intOf]; omega
                · have hd4 : decide ((k : Int) < (m : Int)) = false := by simp; omega
                  go_wp2
                  go_roundw
                  case rel => exact ⟨i + 1, by omega, by go_num, HO.out, HB.out⟩
                  case measure => simp [intOf]; omega
            · have hd3 : decide ((i : Int) < (m : Int)) = false := by simp; omega
              go_wp2
              go_roundw
              case rel => exact ⟨op + 1, by omega, by omega, rfl, HO.out, HB.out⟩
              case measure => simp [intOf]; omega
        · have hd2 : decide (op ≤ high) = false := by simpa using hle
          go_wp2_with (go_at_call 18; refine (wakes_any _).mono ?_; rintro e w' ⟨rfl, rfl⟩)
          go_ret
          exact ⟨rfl, HB.out⟩
end Go.Proofs.Ytkmpfgaedjmadaa
