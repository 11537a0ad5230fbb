/-
  Contract of 'words': whatever slice of words comes in (nil or not), it returns a new row of at most 26 words of the call's own, and nothing that was there has turned. Condition: the slice that comes in takes fewer than 2^47 - 4096 bytes.
-/
import Derived.Test.YtlmbgpcmljgnkaaOf
import Derived.Deep.AppendLies
import Derived.Laws.AppendOwnNone
import Derived.Lib.Hide
namespace Go.Proofs.Ytlmbgpcmljgnkaa
open Go.RowKit
theorem Try.info28 : (Try.prog.info? 28).map (fun i => (i.zero, i.size, i.bytes)) = some (some (.int .u32 0), 1, 4) := by kernel_rfl

theorem own_take {w : World} {base e g n cap : Nat} {xs : List Value} (h : w.ownsRow base e 1 (.slice (some ⟨g, 0, none⟩) n cap) n xs) {m : Nat} (hm : m ≤ n) :
    w.ownsRow base e 1 (.slice (some ⟨g, 0, none⟩) m cap) m (xs.take m) := by
  obtain ⟨hl, h2⟩ := h
  refine ⟨by simp at hl ⊢; omega, ?_⟩
  rcases h2 with ⟨h', _⟩ | ⟨g', cap', cur, h', hb, hg, hn, hc, hs, ht⟩
  · simp at h'
  · simp only [Value.slice.injEq, Option.some.injEq, Addr.mk.injEq, and_true, true_and] at h'
    obtain ⟨rfl, rfl⟩ := h'
    refine .inr ⟨g, cap, cur, rfl, hb, hg, by omega, hc, hs, ?_⟩
    rw [← ht, List.take_take, Nat.mul_one, Nat.mul_one, Nat.min_eq_left hm]

theorem own_cap {w : World} {base e size g n cap : Nat} {xs : List Value} (h : w.ownsRow base e size (.slice (some ⟨g, 0, none⟩) n cap) n xs) : n ≤ cap ∧ cap ≤ maxLen := by
  rcases h.2 with ⟨h', _⟩ | ⟨g', cap', cur, h', hb, hg, hn, hc, hs, ht⟩
  · simp at h'
  · simp only [Value.slice.injEq, Option.some.injEq, Addr.mk.injEq, and_true, true_and] at h'
    obtain ⟨rfl, rfl⟩ := h'
    exact ⟨hn, hc⟩

/-- A row of words of the call's own. -/
def Owned (w : World) (base g n cap : Nat) (xs : List Int) : Prop :=
  w.ownsRow base 28 1 (.slice (some ⟨g, 0, none⟩) n cap) n (xs.map (Value.int .u32)) ∧ ∀ x ∈ xs, U32 x

def WordsPost (w : World) (e : Ending) (w' : World) : Prop :=
  ∃ g n cap xs, e = .returned (.slice (some ⟨g, 0, none⟩) n cap) ∧ n ≤ 26 ∧ Owned w' w.heap.size g n cap xs ∧ Below w.heap.size w w'

def consts : List Int := [0, 1, 65536, 65535, 4294901760, 32768, 2147483648, 2147516416, 2147450879, 4294967295]
theorem consts_ok : ∀ x ∈ consts, U32 x := by
  intro x hx
  simp [consts] at hx
  unfold U32
  omega

theorem block_add (a : Addr) (j : Nat) : (a.add j).block = a.block := by unfold Addr.add; split <;> rfl

theorem lit_owned (w : World) (o : Obj) : ((w.alloc o).alloc (.cells #[.int .u32 0, .int .u32 1, .int .u32 65536, .int .u32 65535, .int .u32 4294901760, .int .u32 32768, .int .u32 2147483648, .int .u32 2147516416, .int .u32 2147450879, .int .u32 4294967295] 28)).ownsRow w.heap.size 28 1 (.slice (some ⟨w.heap.size + 1, 0, none⟩) 10 10) 10 (consts.map (Value.int .u32)) := by
  have h := World.ownsRow_lit (base := w.heap.size) (e := 28) (size := 1) (w.alloc o) #[.int .u32 0, .int .u32 1, .int .u32 65536, .int .u32 65535, .int .u32 4294901760, .int .u32 32768, .int .u32 2147483648, .int .u32 2147516416, .int .u32 2147450879, .int .u32 4294967295] 10 (by simp) (by unfold maxLen; omega) rfl
  simpa [consts] using h

theorem two_below (w : World) (o p : Obj) : Below w.heap.size w ((w.alloc o).alloc p) := ((Below.refl _ _).alloc (Nat.le_refl _) _).alloc (by simp) _

theorem words_end {w W w1 : World} {g n cap : Nat} {zs : List Int} {row : Option Nat} (hz : ∀ x ∈ zs, U32 x)
    (hown : w1.ownsRow w.heap.size 28 1 (.slice (some ⟨g, 0, none⟩) (10 + n) cap) (10 + n) (consts.map (Value.int .u32) ++ zs.map (Value.int .u32)))
    (hb : Below w.heap.size w W) (hg : W.grownBy w1 row) (hW : w.heap.size ≤ W.heap.size) (hr : ∀ k, row = some k → w.heap.size ≤ k) :
    WordsPost w (.returned (.slice (some ⟨g, 0, none⟩) (if 26 < 10 + n then 26 else 10 + n) cap)) w1 := by
  have hall : ∀ x ∈ consts ++ zs, U32 x := by
    intro x hx
    rcases List.mem_append.1 hx with h | h
    · exact consts_ok x h
    · exact hz x h
  have hbel := hb.grown hg hW hr
  rw [← List.map_append] at hown
  by_cases h : 26 < 10 + n
  · rw [if_pos h]
    refine ⟨g, 26, cap, (consts ++ zs).take 26, rfl, Nat.le_refl _, ⟨?_, fun x hx => hall x (List.mem_of_mem_take hx)⟩, hbel⟩
    rw [List.map_take]
    exact own_take hown (by omega)
  · rw [if_neg h]
    exact ⟨g, 10 + n, cap, consts ++ zs, rfl, by omega, ⟨hown, hall⟩, hbel⟩

set_option maxHeartbeats 400000 in
theorem words_some (ad : Addr) (A2 : Option Addr) (n c n2 c2 : Nat) (zs : List Int) (w : World) (hb : 0 < n → ad.block < w.heap.size) (hl : zs.length = n)
    (hz : ∀ x ∈ zs, U32 x) (hc : ∀ j u, (zs.map (Value.int .u32))[j]? = some u → w.cell? (ad.add j) = some u) (hn : n * 4 ≤ 140737488351232) :
    Calls Try.prog 7 #[.agg #[.slice (some ad) n c, .slice A2 n2 c2]] w (WordsPost w) := by
  have HC := Lib.hid hc
  have HZ := Lib.hid hz
  have HL := Lib.hid hl
  clear hc hz hl
  obtain ⟨i0, hi, hz0, hz1, hz2⟩ := info_parts Try.info28
  have HI := Lib.hid hi
  have HZ0 := Lib.hid hz0
  have HZ1 := Lib.hid hz1
  have HZ2 := Lib.hid hz2
  clear hi hz0 hz1 hz2
  go_enter Try.func7, Try.ntmps7
  go_wp2_with (at_builtin; refine wpList_append_own _ rfl _ _ 22 rfl w.heap.size 28 i0 (.int .u32 0) 1 4 Try.underlying22 HI.out HZ0.out HZ1.out HZ2.out rfl (by decide) _ 10 (consts.map (Value.int .u32)) rfl ?h1 ad n c (zs.map (Value.int .u32)) rfl ?h2 ?h3 ?h4 ?h5 ?h6 ?h7 ?_)
  case h1 => exact lit_owned w _
  case h2 => simp [HL.out]
  case h3 =>
    intro j u hu
    have hj : 0 < n := by
      have := (List.getElem?_eq_some_iff.1 hu).1
      rw [List.length_map, HL.out] at this
      omega
    have hb' := hb hj
    rw [World.cell?_alloc_lt _ _ _ (by rw [block_add]; simp; omega), World.cell?_alloc_lt _ _ _ (by rw [block_add]; exact hb')]
    exact HC.out j u hu
  case h4 => exact ints_oneCell _ _
  case h5 => unfold maxLen; omega
  case h6 => omega
  case h7 => simp; omega
  intro v' w1 hown hg _
  obtain ⟨g, cap, hv, hbase, hlt⟩ := hown.form (by omega)
  rw [hv] at hown ⊢
  have HE := Lib.hid (words_end HZ.out hown (two_below w _ _) hg (by simp; omega) (by intro k hk; simp [Value.ownBlock] at hk; omega))
  obtain ⟨hcap, hcap2⟩ := own_cap hown
  clear hown hg hv hlt hbase
  by_cases h22 : 26 < 10 + n
  · rw [if_pos h22] at HE
    go_wp2
    go_ret
    exact HE.out
  · rw [if_neg h22] at HE
    go_wp2
    go_ret
    exact HE.out

set_option maxHeartbeats 400000 in
theorem words_nil (A2 : Option Addr) (n2 c2 : Nat) (w : World) :
    Calls Try.prog 7 #[.agg #[.slice none 0 0, .slice A2 n2 c2]] w (WordsPost w) := by
  obtain ⟨i0, hi, hz0, hz1, hz2⟩ := info_parts Try.info28
  have HI := Lib.hid hi
  clear hi hz0 hz1 hz2
  go_enter Try.func7, Try.ntmps7
  go_wp2_with (at_builtin; refine wpList_append_own_none rfl _ _ 22 rfl w.heap.size 28 i0 1 Try.underlying22 HI.out _ 10 (consts.map (Value.int .u32)) rfl (lit_owned w _) rfl ?_)
  go_ret
  exact ⟨_, 10, 10, consts, rfl, by omega, ⟨lit_owned w _, consts_ok⟩, two_below w _ _⟩
end Go.Proofs.Ytlmbgpcmljgnkaa
