/-
  Contracts of the calls that copy rows of numbers: slices.Clone of Go's library at words and at numbers, the page's CopyWords, CopyNumbers. Conditions: the row reads as a list of at most 1,000,000 numbers, nil or not.
-/
import Derived.Test.YtbgmdikcbglpiaaGreatDoorPg2
import Derived.Deep.LoopGhost
import Derived.Lib.SliceRun
namespace Go.Proofs.YtbgmdikcbglpiaaGreatDoor
open Go.RowKit

/-- A slice that reads as a list of numbers, nil or not, wherever it lies. -/
def Rd (k : IntKind) (w : World) (v : Value) (xs : List Int) : Prop :=
  ∃ A c, v = .slice A xs.length c ∧ (0 < xs.length → ∃ ad : Addr, A = some ad ∧ ad.block < w.heap.size ∧ ∀ j u, (xs.map (Value.int k))[j]? = some u → w.cell? (ad.add j) = some u)
section
variable {k : IntKind} {w w' : World} {v : Value} {xs : List Int}
theorem Rd.keep (h : Rd k w v xs) (hs : w.heap.size ≤ w'.heap.size) (hk : ∀ p : Addr, p.block < w.heap.size → w'.cell? p = w.cell? p) : Rd k w' v xs := by
  obtain ⟨A, c, hv, h⟩ := h
  refine ⟨A, c, hv, fun h0 => ?_⟩
  obtain ⟨ad, ha, hb, hc⟩ := h h0
  exact ⟨ad, ha, by omega, fun j u hu => (hk _ (by rw [block_add]; exact hb)).trans (hc j u hu)⟩
theorem Rd.below (h : Rd k w v xs) (hb : Below w.heap.size w w') : Rd k w' v xs := h.keep hb.size fun _ hp => hb.cell hp
theorem Rd.alloc (h : Rd k w v xs) (o : Obj) : Rd k (w.alloc o) v xs := h.below (below_new _ _)
theorem Rd.of_own {B e : Nat} (h : w.ownsRow B e 1 v xs.length (xs.map (Value.int k))) : Rd k w v xs := by
  rcases h.2 with ⟨rfl, h0⟩ | ⟨g, cap, cur, rfl, hb, hg, _⟩
  · exact ⟨none, 0, by rw [h0], fun h1 => absurd h1 (by omega)⟩
  · exact ⟨_, _, rfl, fun _ => ⟨_, rfl, lt_of_heap hg, h.cells rfl⟩⟩
theorem map_get {j : Nat} (hj : j < xs.length) : (xs.map (Value.int k))[j]? = some (.int k xs[j]) := by rw [List.getElem?_map, List.getElem?_eq_getElem hj]; rfl
end
/-- A copy: a row of the call's own. -/
def CpPost (k : IntKind) (e : TypeId) (xs : List Int) (w : World) (en : Ending) (w' : World) : Prop := ∃ A c, en = .returned (.slice A xs.length c) ∧ w'.ownsRow w.heap.size e 1 (.slice A xs.length c) xs.length (xs.map (Value.int k)) ∧ Below w.heap.size w w'
theorem cp_mk {k : IntKind} {e : TypeId} {xs : List Int} {w w' : World} {v : Value} (h : w'.ownsRow w.heap.size e 1 v xs.length (xs.map (Value.int k))) (hb : Below w.heap.size w w') : CpPost k e xs w (.returned v) w' := by
  rcases h.2 with ⟨rfl, h0⟩ | ⟨g, cap, cur, rfl, _⟩
  · refine ⟨none, 0, by rw [h0], ?_, hb⟩
    have h2 := h
    rw [h0] at h2 ⊢
    exact h2
  · exact ⟨_, _, rfl, h, hb⟩
theorem info_parts {P : Program} {e : TypeId} {z : Value} {s b : Nat} (h : (P.info? e).map (fun i => (i.zero, i.size, i.bytes)) = some (some z, s, b)) : ∃ i, P.info? e = some i ∧ i.zero = some z ∧ i.size = s ∧ i.bytes = b := by
  obtain ⟨i, hi, he⟩ := Option.map_eq_some_iff.1 h
  simp only [Prod.mk.injEq] at he
  exact ⟨i, hi, he.1, he.2.1, he.2.2⟩
set_option maxHeartbeats 1000000 in
theorem clone_w (xs : List Int) (v : Value) (w : World) (h : Rd .u32 w v xs) (hl : xs.length ≤ 1000000) : Calls Tryz.prog 67 #[v] w (CpPost .u32 69 xs w) := by
  obtain ⟨A, c, rfl, hr⟩ := h
  have q22 : ∀ (w : World) (a : Option Addr) (n c n' c' : Nat), (binOp .eql 23 (.slice a n c) (.slice none n' c')).run Tryz.prog w = .ok (.bool a.isNone) w := fun w a n c n' c' => Lib.run_eql_slice_nil w _ _ a n c n' c' Tryz.underlying23
  cases A with
  | none =>
    have h0 : xs.length = 0 := by
      by_cases h1 : 0 < xs.length
      · obtain ⟨ad, ha, _⟩ := hr h1; cases ha
      · omega
    have hx : xs = [] := List.length_eq_zero_iff.1 h0
    subst hx
    clear hr hl h0
    go_enter Tryz.func67, Tryz.ntmps67
    go_wp2
    go_ret
    exact cp_mk (World.ownsRow_nil _ _ _ _) (Below.refl _ _)
  | some ad =>
    have hc : ∀ j u, (xs.map (Value.int .u32))[j]? = some u → w.cell? (ad.add j) = some u ∧ ad.block < w.heap.size := by
      intro j u hu
      have hj : 0 < xs.length := by
        have := (List.getElem?_eq_some_iff.1 hu).1
        rw [List.length_map] at this
        omega
      obtain ⟨ad', ha, hb, hq⟩ := hr hj
      cases ha
      exact ⟨hq j u hu, hb⟩
    have HC := Lib.hid hc
    clear hc hr
    generalize hn : xs.length = n at *
    have HN := Lib.hid hn
    clear hn
    obtain ⟨i0, hi, hz0, hz1, hz2⟩ := info_parts Tryz.info69
    have HI := Lib.hid hi
    have HZ0 := Lib.hid hz0
    have HZ1 := Lib.hid hz1
    have HZ2 := Lib.hid hz2
    clear hi hz0 hz1 hz2
    go_enter Tryz.func67, Tryz.ntmps67
    go_wp2_with (at_builtin; refine wpList_append_own _ rfl _ _ 23 rfl w.heap.size 69 i0 (.int .u32 0) 1 4 Tryz.underlying23 HI.out HZ0.out HZ1.out HZ2.out rfl (by decide) _ _ _ rfl (World.ownsRow_made w #[] 0 (Nat.le_refl _) (Nat.zero_le _) rfl) ad n c (xs.map (Value.int .u32)) rfl ?qc1 ?qc2 ?qc3 ?qc4 ?qc5 ?qc6 ?_)
    case qc1 => simp [HN.out]
    case qc2 => intro j u hu; obtain ⟨h1, h2⟩ := HC.out j u hu; exact (World.cell?_alloc_lt w _ _ (by rw [block_add]; exact h2)).trans h1
    case qc3 => intro u hu; obtain ⟨x, _, rfl⟩ := List.mem_map.1 hu; rfl
    case qc4 => unfold maxLen; omega
    case qc5 => omega
    case qc6 => simp
    intro v' w1 hown hgrow hnil
    have O1 := Lib.hid hown
    have B1 := Lib.hid (((Below.refl _ w).alloc (Nat.le_refl _) _).grown hgrow (by simp) (by intro k hk; simp [Value.ownBlock] at hk; omega))
    clear hown hgrow hnil
    go_wp2
    go_ret
    have h3 := O1.out
    refine cp_mk ?_ B1.out
    rw [HN.out]
    exact h3
set_option maxHeartbeats 1000000 in
theorem clone_n (xs : List Int) (v : Value) (w : World) (h : Rd .i64 w v xs) (hl : xs.length ≤ 1000000) : Calls Tryz.prog 68 #[v] w (CpPost .i64 3 xs w) := by
  obtain ⟨A, c, rfl, hr⟩ := h
  have q22 : ∀ (w : World) (a : Option Addr) (n c n' c' : Nat), (binOp .eql 24 (.slice a n c) (.slice none n' c')).run Tryz.prog w = .ok (.bool a.isNone) w := fun w a n c n' c' => Lib.run_eql_slice_nil w _ _ a n c n' c' Tryz.underlying24
  cases A with
  | none =>
    have h0 : xs.length = 0 := by
      by_cases h1 : 0 < xs.length
      · obtain ⟨ad, ha, _⟩ := hr h1; cases ha
      · omega
    have hx : xs = [] := List.length_eq_zero_iff.1 h0
    subst hx
    clear hr hl h0
    go_enter Tryz.func68, Tryz.ntmps68
    go_wp2
    go_ret
    exact cp_mk (World.ownsRow_nil _ _ _ _) (Below.refl _ _)
  | some ad =>
    have hc : ∀ j u, (xs.map (Value.int .i64))[j]? = some u → w.cell? (ad.add j) = some u ∧ ad.block < w.heap.size := by
      intro j u hu
      have hj : 0 < xs.length := by
        have := (List.getElem?_eq_some_iff.1 hu).1
        rw [List.length_map] at this
        omega
      obtain ⟨ad', ha, hb, hq⟩ := hr hj
      cases ha
      exact ⟨hq j u hu, hb⟩
    have HC := Lib.hid hc
    clear hc hr
    generalize hn : xs.length = n at *
    have HN := Lib.hid hn
    clear hn
    obtain ⟨i0, hi, hz0, hz1, hz2⟩ := info_parts Tryz.info3
    have HI := Lib.hid hi
    have HZ0 := Lib.hid hz0
    have HZ1 := Lib.hid hz1
    have HZ2 := Lib.hid hz2
    clear hi hz0 hz1 hz2
    go_enter Tryz.func68, Tryz.ntmps68
    go_wp2_with (at_builtin; refine wpList_append_own _ rfl _ _ 24 rfl w.heap.size 3 i0 (.int .i64 0) 1 8 Tryz.underlying24 HI.out HZ0.out HZ1.out HZ2.out rfl (by decide) _ _ _ rfl (World.ownsRow_made w #[] 0 (Nat.le_refl _) (Nat.zero_le _) rfl) ad n c (xs.map (Value.int .i64)) rfl ?qc1 ?qc2 ?qc3 ?qc4 ?qc5 ?qc6 ?_)
    case qc1 => simp [HN.out]
    case qc2 => intro j u hu; obtain ⟨h1, h2⟩ := HC.out j u hu; exact (World.cell?_alloc_lt w _ _ (by rw [block_add]; exact h2)).trans h1
    case qc3 => intro u hu; obtain ⟨x, _, rfl⟩ := List.mem_map.1 hu; rfl
    case qc4 => unfold maxLen; omega
    case qc5 => omega
    case qc6 => simp
    intro v' w1 hown hgrow hnil
    have O1 := Lib.hid hown
    have B1 := Lib.hid (((Below.refl _ w).alloc (Nat.le_refl _) _).grown hgrow (by simp) (by intro k hk; simp [Value.ownBlock] at hk; omega))
    clear hown hgrow hnil
    go_wp2
    go_ret
    have h3 := O1.out
    refine cp_mk ?_ B1.out
    rw [HN.out]
    exact h3
set_option maxHeartbeats 1000000 in
theorem copy_w (xs : List Int) (v : Value) (w : World) (h : Rd .u32 w v xs) (hl : xs.length ≤ 1000000) : Calls Tryz.prog 41 #[v] w (CpPost .u32 69 xs w) := by
  obtain ⟨A, c, rfl, r⟩ := h
  have R := Lib.hid r
  clear r
  generalize hn : xs.length = n at *
  have HN := Lib.hid hn
  clear hn
  go_enter Tryz.func41, Tryz.ntmps41
  go_wp2_with fail
  go_loopg [3, 4] n (fun gk l o wr2 => ∃ (i : Nat) (va : Option Addr) (cc : Nat), i ≤ n ∧ gk = n - i ∧ o = .int .i64 i ∧ l = .slice va i cc ∧ wr2.ownsRow w.heap.size 69 1 (.slice va i cc) i ((xs.take i).map (Value.int .u32)) ∧ Below w.heap.size w wr2)
  case atStart => exact ⟨0, none, 0, by omega, rfl, rfl, rfl, World.ownsRow_nil _ _ _ _, Below.refl _ _⟩
  case round =>
    obtain ⟨i, va, cc, hi, rfl, rfl, rfl, hown, hb⟩ := hrel
    have OWN := Lib.hid hown
    have HB := Lib.hid hb
    clear hown hb
    by_cases hlt : i < n
    · have hd : decide ((i : Int) < (n : Int)) = true := by simpa using hlt
      have i0 : (0 : Int) ≤ (i : Int) := by omega
      have i1 : (i : Int) < (n : Int) := by omega
      obtain ⟨g, rfl, hg, q⟩ := R.out (by omega)
      have hil : i < xs.length := by have := HN.out; omega
      have k1 := (HB.out.cell (p := g.add i) (by rw [block_add]; exact hg)).trans (q i _ (map_get hil))
      have T := Lib.hid (List.take_succ_eq_append_getElem hil)
      generalize xs[i] = z at k1 T
      clear q hg hil
      go_wp2_with (at_builtin; refine app_lies 23 69 4 (.int .u32 0) Tryz.info69 rfl (by decide) Tryz.underlying23 (by rfl) _ _ (by rfl) _ w.heap.size i cc va _ _ (by rfl) OWN.out (by omega) (by rfl) _ (by rfl) (by simp) ?hb ?_)
      case hb => exact HB.out.size
      intro g9 cap9 w9 hown9 hg9 hat9 hlt9
      have O9 := Lib.hid hown9
      have B9 := Lib.hid (HB.out.trans (((Below.refl w.heap.size wr).alloc HB.out.size _).grown hg9 (by have := HB.out.size; simp; omega) (fun k hk => (OWN.out.lt k (by rw [own_ob]; exact hk)).1)))
      clear hown9 hg9 hat9 hlt9
      go_wp2_with fail
      go_roundg (n - (i + 1))
      case measure => omega
      case rel => exact ⟨i + 1, _, _, by omega, rfl, by go_num, rfl, by rw [T.out, List.map_append, List.map_take]; exact O9.out, B9.out⟩
    · have hd : decide ((i : Int) < (n : Int)) = false := by simp; omega
      obtain rfl : i = n := by omega
      go_wp2_with fail
      go_ret
      have h3 := OWN.out
      rw [List.take_of_length_le (by have := HN.out; omega)] at h3
      refine cp_mk ?_ HB.out
      rw [HN.out]
      exact h3
set_option maxHeartbeats 1000000 in
theorem copy_n (xs : List Int) (v : Value) (w : World) (h : Rd .i64 w v xs) (hl : xs.length ≤ 1000000) : Calls Tryz.prog 42 #[v] w (CpPost .i64 3 xs w) := by
  obtain ⟨A, c, rfl, r⟩ := h
  have R := Lib.hid r
  clear r
  generalize hn : xs.length = n at *
  have HN := Lib.hid hn
  clear hn
  go_enter Tryz.func42, Tryz.ntmps42
  go_wp2_with fail
  go_loopg [3, 4] n (fun gk l o wr2 => ∃ (i : Nat) (va : Option Addr) (cc : Nat), i ≤ n ∧ gk = n - i ∧ o = .int .i64 i ∧ l = .slice va i cc ∧ wr2.ownsRow w.heap.size 3 1 (.slice va i cc) i ((xs.take i).map (Value.int .i64)) ∧ Below w.heap.size w wr2)
  case atStart => exact ⟨0, none, 0, by omega, rfl, rfl, rfl, World.ownsRow_nil _ _ _ _, Below.refl _ _⟩
  case round =>
    obtain ⟨i, va, cc, hi, rfl, rfl, rfl, hown, hb⟩ := hrel
    have OWN := Lib.hid hown
    have HB := Lib.hid hb
    clear hown hb
    by_cases hlt : i < n
    · have hd : decide ((i : Int) < (n : Int)) = true := by simpa using hlt
      have i0 : (0 : Int) ≤ (i : Int) := by omega
      have i1 : (i : Int) < (n : Int) := by omega
      obtain ⟨g, rfl, hg, q⟩ := R.out (by omega)
      have hil : i < xs.length := by have := HN.out; omega
      have k1 := (HB.out.cell (p := g.add i) (by rw [block_add]; exact hg)).trans (q i _ (map_get hil))
      have T := Lib.hid (List.take_succ_eq_append_getElem hil)
      generalize xs[i] = z at k1 T
      clear q hg hil
      go_wp2_with (at_builtin; refine app_lies 24 3 8 (.int .i64 0) Tryz.info3 rfl (by decide) Tryz.underlying24 (by rfl) _ _ (by rfl) _ w.heap.size i cc va _ _ (by rfl) OWN.out (by omega) (by rfl) _ (by rfl) (by simp) ?hb ?_)
      case hb => exact HB.out.size
      intro g9 cap9 w9 hown9 hg9 hat9 hlt9
      have O9 := Lib.hid hown9
      have B9 := Lib.hid (HB.out.trans (((Below.refl w.heap.size wr).alloc HB.out.size _).grown hg9 (by have := HB.out.size; simp; omega) (fun k hk => (OWN.out.lt k (by rw [own_ob]; exact hk)).1)))
      clear hown9 hg9 hat9 hlt9
      go_wp2_with fail
      go_roundg (n - (i + 1))
      case measure => omega
      case rel => exact ⟨i + 1, _, _, by omega, rfl, by go_num, rfl, by rw [T.out, List.map_append, List.map_take]; exact O9.out, B9.out⟩
    · have hd : decide ((i : Int) < (n : Int)) = false := by simp; omega
      obtain rfl : i = n := by omega
      go_wp2_with fail
      go_ret
      have h3 := OWN.out
      rw [List.take_of_length_le (by have := HN.out; omega)] at h3
      refine cp_mk ?_ HB.out
      rw [HN.out]
      exact h3
end Go.Proofs.YtbgmdikcbglpiaaGreatDoor
