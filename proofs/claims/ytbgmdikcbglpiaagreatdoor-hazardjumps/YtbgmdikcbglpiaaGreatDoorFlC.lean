/-
  Contracts of the calls that copy, and compare, rows of results that fly: slices.Clone, the page's CopyFlies and EqFlies. Conditions: the row reads as a list of at most 1,000 results, nil or not.
-/
import Derived.Test.YtbgmdikcbglpiaaGreatDoorCp
import Derived.Test.YtbgmdikcbglpiaaGreatDoorPq1
import Derived.Deep.LoopGhost
import Derived.Lib.SliceRun
namespace Go.Proofs.YtbgmdikcbglpiaaGreatDoor
open Go.RowKit

/-- A slice that reads as a list of results, nil or not, wherever it lies. -/
def RdF (w : World) (v : Value) (xs : List Fl) : Prop :=
  ∃ A c, v = .slice A xs.length c ∧ (0 < xs.length → ∃ ad : Addr, A = some ad ∧ ad.block < w.heap.size ∧ ∀ j u, (flat3 xs)[j]? = some u → w.cell? (ad.add j) = some u)
section
variable {w w' : World} {v : Value} {xs : List Fl}
theorem RdF.keep (h : RdF w v xs) (hs : w.heap.size ≤ w'.heap.size) (hk : ∀ p : Addr, p.block < w.heap.size → w'.cell? p = w.cell? p) : RdF w' v xs := by
  obtain ⟨A, c, hv, h⟩ := h
  refine ⟨A, c, hv, fun h0 => ?_⟩
  obtain ⟨ad, ha, hb, hc⟩ := h h0
  exact ⟨ad, ha, by omega, fun j u hu => (hk _ (by rw [block_add]; exact hb)).trans (hc j u hu)⟩
theorem RdF.below (h : RdF w v xs) (hb : Below w.heap.size w w') : RdF w' v xs := h.keep hb.size fun _ hp => hb.cell hp
theorem RdF.alloc (h : RdF w v xs) (o : Obj) : RdF (w.alloc o) v xs := h.below (below_new _ _)
theorem RdF.drewN (h : RdF w v xs) (n : Nat) : RdF (w.drewN n) v xs := h
theorem RdF.of_own {B : Nat} (h : w.ownsRow B 71 3 v xs.length (flat3 xs)) : RdF w v xs := by
  rcases h.2 with ⟨rfl, h0⟩ | ⟨g, cap, cur, rfl, hb, hg, _⟩
  · exact ⟨none, 0, by rw [h0], fun h1 => absurd h1 (by omega)⟩
  · exact ⟨_, _, rfl, fun _ => ⟨_, rfl, lt_of_heap hg, h.cells rfl⟩⟩
theorem RdF.at_ {A : Option Addr} {i : Nat} (h : 0 < xs.length → ∃ ad : Addr, A = some ad ∧ ad.block < w.heap.size ∧ ∀ j u, (flat3 xs)[j]? = some u → w.cell? (ad.add j) = some u) (hi : i < xs.length) :
    ∃ ad : Addr, A = some ad ∧ ad.block < w.heap.size ∧ w.cell? (ad.add (i * 3)) = some (.int .i64 (xs[i]).r) ∧ w.cell? ⟨(ad.add (i * 3)).block, (ad.add (i * 3)).off + 1, none⟩ = some (.int .u32 (xs[i]).v) ∧ w.cell? ⟨(ad.add (i * 3)).block, (ad.add (i * 3)).off + 2, none⟩ = some (.int .i64 (xs[i]).k) := by
  obtain ⟨ad, ha, hb, hc⟩ := h (by omega)
  have f : ∀ j, j < 3 → w.cell? (ad.add (i * 3 + j)) = (xs[i]).list[j]? := fun j hj => by
    have h1 := flat3_at xs i j _ (List.getElem?_eq_getElem hi) hj
    have h2 : (xs[i]).list[j]? = some ((xs[i]).list[j]'hj) := List.getElem?_eq_getElem hj
    rw [h2]
    exact hc _ _ (h1.trans h2)
  have h1 := f 1 (by decide)
  have h2 := f 2 (by decide)
  rw [← Go.Deep.add_add, add_pos _ _ (by decide)] at h1 h2
  exact ⟨ad, ha, hb, f 0 (by decide), h1, h2⟩
end
/-- A copy: a row of the call's own. -/
def CpF (xs : List Fl) (w : World) (en : Ending) (w' : World) : Prop := ∃ A c, en = .returned (.slice A xs.length c) ∧ w'.ownsRow w.heap.size 71 3 (.slice A xs.length c) xs.length (flat3 xs) ∧ Below w.heap.size w w'
theorem cpf_mk {xs : List Fl} {w w' : World} {v : Value} (h : w'.ownsRow w.heap.size 71 3 v xs.length (flat3 xs)) (hb : Below w.heap.size w w') : CpF xs w (.returned v) w' := by
  rcases h.2 with ⟨rfl, h0⟩ | ⟨g, cap, cur, rfl, _⟩
  · refine ⟨none, 0, by rw [h0], ?_, hb⟩
    have h2 := h
    rw [h0] at h2 ⊢
    exact h2
  · exact ⟨_, _, rfl, h, hb⟩
theorem flat3_one (xs : List Fl) : ∀ u ∈ flat3 xs, u.oneCell' = true := by
  intro u hu
  obtain ⟨f, _, hf⟩ := List.mem_flatMap.1 hu
  exact fl_one f u hf
set_option maxHeartbeats 1000000 in
theorem clone_f (xs : List Fl) (v : Value) (w : World) (h : RdF w v xs) (hl : xs.length ≤ 1000) : Calls Tryz.prog 69 #[v] w (CpF xs w) := by
  obtain ⟨A, c, rfl, hr⟩ := h
  have q22 : ∀ (w : World) (a : Option Addr) (n c n' c' : Nat), (binOp .eql 25 (.slice a n c) (.slice none n' c')).run Tryz.prog w = .ok (.bool a.isNone) w := fun w a n c n' c' => Lib.run_eql_slice_nil w _ _ a n c n' c' Tryz.underlying25
  cases A with
  | none =>
    have h0 : xs.length = 0 := by
      by_cases h1 : 0 < xs.length
      · obtain ⟨ad, ha, _⟩ := hr h1; cases ha
      · omega
    have hx : xs = [] := List.length_eq_zero_iff.1 h0
    subst hx
    clear hr hl h0
    go_enter Tryz.func69, Tryz.ntmps69
    go_wp2
    go_ret
    exact cpf_mk (World.ownsRow_nil _ _ _ _) (Below.refl _ _)
  | some ad =>
    have hc : ∀ j u, (flat3 xs)[j]? = some u → w.cell? (ad.add j) = some u ∧ ad.block < w.heap.size := by
      intro j u hu
      have hj : 0 < xs.length := by
        have := (List.getElem?_eq_some_iff.1 hu).1
        rw [flat3_len] at this
        omega
      obtain ⟨ad', ha, hb, hq⟩ := hr hj
      cases ha
      exact ⟨hq j u hu, hb⟩
    have HC := Lib.hid hc
    clear hc hr
    generalize hn : xs.length = n at *
    have HN := Lib.hid hn
    clear hn
    obtain ⟨i0, z0, hi, hz0, hz1, hz2, hz3⟩ := infoW_parts
    have HI := Lib.hid hi
    have HZ0 := Lib.hid hz0
    have HZ1 := Lib.hid hz1
    have HZ2 := Lib.hid hz2
    have HZ3 := Lib.hid hz3
    clear hi hz0 hz1 hz2 hz3
    go_enter Tryz.func69, Tryz.ntmps69
    go_wp2_with (at_builtin; refine wpList_append_own _ rfl _ _ 25 rfl w.heap.size 71 i0 z0 3 24 Tryz.underlying25 HI.out HZ0.out HZ1.out HZ2.out HZ3.out (by decide) _ _ _ rfl (World.ownsRow_made w #[] 0 (Nat.le_refl _) (Nat.zero_le _) rfl) ad n c (flat3 xs) rfl ?qc1 ?qc2 ?qc3 ?qc4 ?qc5 ?qc6 ?_)
    case qc1 => rw [flat3_len, HN.out]
    case qc2 => intro j u hu; obtain ⟨h1, h2⟩ := HC.out j u hu; exact (World.cell?_alloc_lt w _ _ (by rw [block_add]; exact h2)).trans h1
    case qc3 => exact flat3_one xs
    case qc4 => unfold maxLen; omega
    case qc5 => omega
    case qc6 => simp
    intro v' w1 hown hgrow hnil
    have O1 := Lib.hid hown
    have B1 := Lib.hid (((Below.refl _ w).alloc (Nat.le_refl _) _).grown hgrow (by simp) (by intro k hk; simp [Value.ownBlock] at hk; omega))
    clear hown hgrow hnil
    go_wp2
    go_ret
    have h3 := O1.out
    refine cpf_mk ?_ B1.out
    rw [HN.out]
    exact h3
set_option maxHeartbeats 1000000 in
theorem copy_f (xs : List Fl) (v : Value) (w : World) (h : RdF w v xs) (hl : xs.length ≤ 1000) : Calls Tryz.prog 43 #[v] w (CpF xs w) := by
  obtain ⟨A, c, rfl, r⟩ := h
  have R := Lib.hid r
  clear r
  generalize hn : xs.length = n at *
  have HN := Lib.hid hn
  clear hn
  go_enter Tryz.func43, Tryz.ntmps43
  go_wp2_with fail
  go_loopg [3, 4] n (fun gk l o wr2 => ∃ (i : Nat) (va : Option Addr) (cc : Nat), i ≤ n ∧ gk = n - i ∧ o = .int .i64 i ∧ l = .slice va i cc ∧ wr2.ownsRow w.heap.size 71 3 (.slice va i cc) i (flat3 (xs.take i)) ∧ Below w.heap.size w wr2)
  case atStart => exact ⟨0, none, 0, by omega, rfl, rfl, rfl, World.ownsRow_nil _ _ _ _, Below.refl _ _⟩
  case round =>
    obtain ⟨i, va, cc, hi, rfl, rfl, rfl, hown, hb⟩ := hrel
    have OWN := Lib.hid hown
    have HB := Lib.hid hb
    clear hown hb
    by_cases hlt : i < n
    · have hd : decide ((i : Int) < (n : Int)) = true := by simpa using hlt
      have i0 : (0 : Int) ≤ (i : Int) := by omega
      have i1 : (i : Int) < (n : Int) := by omega
      have hil : i < xs.length := by have := HN.out; omega
      obtain ⟨ad, rfl, hg, q0, q1, q2⟩ := RdF.at_ (by rw [HN.out]; exact R.out) hil
      have k0 := (HB.out.cell (p := ad.add (i * 3)) (by rw [block_add]; exact hg)).trans q0
      have k1 := (HB.out.cell (p := ⟨(ad.add (i * 3)).block, (ad.add (i * 3)).off + 1, none⟩) (by show (ad.add (i * 3)).block < _; rw [block_add]; exact hg)).trans q1
      have k2 := (HB.out.cell (p := ⟨(ad.add (i * 3)).block, (ad.add (i * 3)).off + 2, none⟩) (by show (ad.add (i * 3)).block < _; rw [block_add]; exact hg)).trans q2
      have T := Lib.hid (List.take_succ_eq_append_getElem hil)
      generalize xs[i] = f at k0 k1 k2 T
      clear q0 q1 q2 hg hil
      go_wp2_with (at_builtin; refine app3 rfl _ _ rfl (wr.alloc (.cells #[.int .i64 f.r, .int .u32 f.v, .int .i64 f.k] 71)) w.heap.size i cc va (xs.take i) f rfl (OWN.out.alloc _) (by omega) wr.heap.size rfl #[.int .i64 f.r, .int .u32 f.v, .int .i64 f.k] (heap_alloc_new wr _) rfl (by have := HB.out.size; simp; omega) ?_; intro g9 cap9 w9 hown9 hg9; have O9 := Lib.hid hown9; have B9 := Lib.hid (HB.out.trans (((Below.refl w.heap.size wr).alloc HB.out.size _).grown hg9 (by have := HB.out.size; simp; omega) (fun k hk => (OWN.out.lt k (by rw [own_ob]; exact hk)).1))); clear hown9 hg9)
      go_roundg (n - (i + 1))
      case measure => omega
      case rel => exact ⟨i + 1, _, _, by omega, rfl, by go_num, rfl, by rw [T.out]; exact O9.out, B9.out⟩
    · have hd : decide ((i : Int) < (n : Int)) = false := by simp; omega
      obtain rfl : i = n := by omega
      go_wp2_with fail
      go_ret
      have h3 := OWN.out
      rw [List.take_of_length_le (by have := HN.out; omega)] at h3
      refine cpf_mk ?_ HB.out
      rw [HN.out]
      exact h3
set_option maxHeartbeats 1000000 in
theorem eq_f (xs : List Fl) (v1 v2 : Value) (w : World) (h1 : RdF w v1 xs) (h2 : RdF w v2 xs) (hl : xs.length ≤ 1000) : Calls Tryz.prog 55 #[v1, v2] w (QuietBool true w) := by
  obtain ⟨A1, c1, rfl, r1⟩ := h1
  obtain ⟨A2, c2, rfl, r2⟩ := h2
  have R1 := Lib.hid r1
  have R2 := Lib.hid r2
  clear r1 r2
  generalize hn : xs.length = n at *
  have HN := Lib.hid hn
  clear hn
  have hne : ((n : Int) != (n : Int)) = false := by simp
  go_enter Tryz.func55, Tryz.ntmps55
  go_wp2
  go_loopw [5] (fun o wr2 => ∃ (i m : Nat), i ≤ n ∧ o = .int .i64 i ∧ wr2 = w.drewN m) (fun o _ => n - (intOf o).toNat)
  case atStart => exact ⟨0, 0, by omega, rfl, rfl⟩
  case round =>
    obtain ⟨i, m, hi, rfl, rfl⟩ := hrel
    by_cases hlt : i < n
    · have hd : decide ((i : Int) < (n : Int)) = true := by simpa using hlt
      have i0 : (0 : Int) ≤ (i : Int) := by omega
      have i1 : (i : Int) < (n : Int) := by omega
      have hil : i < xs.length := by have := HN.out; omega
      obtain ⟨ad1, rfl, hg1, q0, q1, q2⟩ := RdF.at_ (by rw [HN.out]; exact R1.out) hil
      obtain ⟨ad2, rfl, hg2, s0, s1, s2⟩ := RdF.at_ (by rw [HN.out]; exact R2.out) hil
      generalize xs[i] = f at q0 q1 q2 s0 s1 s2
      clear hil
      go_wp2_with fail
      go_quiet (fail)
      go_wp2
      go_roundw
      case rel => exact ⟨i + 1, _, by omega, by go_num, rfl⟩
      case measure => simp [intOf]; omega
    · have hd : decide ((i : Int) < (n : Int)) = false := by simp; omega
      go_wp2
      go_ret
      exact ⟨rfl, m, rfl⟩
end Go.Proofs.YtbgmdikcbglpiaaGreatDoor
