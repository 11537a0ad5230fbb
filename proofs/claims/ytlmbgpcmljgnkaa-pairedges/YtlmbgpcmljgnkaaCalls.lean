/-
  The contracts as the laws meet them (in regions that draw their order, too), and what is known of a slice that comes in and of a row of the call's own.
-/
import Derived.Test.YtlmbgpcmljgnkaaWords
namespace Go.Proofs.Ytlmbgpcmljgnkaa
open Go.RowKit
/-- The contracts as a region that draws its order wants them: of each world. -/
theorem of_quiet (op a b : Int) (Ha : U32 a) (Hb : U32 b) (h1 : 18 ≤ op) (h2 : op ≤ 21) (W : World) :
    Calls Try.prog 10 #[.int .i64 op, .int .u32 a, .int .u32 b] W fun e w' => e = .returned (.tuple #[.int .u32 (pV op a b), .int .i64 0]) ∧ W = w' := of_good op a b W Ha Hb h1 h2
theorem of_quiet1 (op a b : Int) (Ha : U32 a) (Hb : U32 b) (h : op < 18 ∨ 21 < op) (W : World) :
    Calls Try.prog 10 #[.int .i64 op, .int .u32 a, .int .u32 b] W fun e w' => e = .returned (.tuple #[.int .u32 0, .int .i64 1]) ∧ W = w' := of_none op a b W Ha Hb h
theorem ref_quiet (op a b : Int) (Ha : U32 a) (Hb : U32 b) (h1 : 18 ≤ op) (h2 : op ≤ 21) (W : World) :
    Calls Try.prog 11 #[.int .i64 op, .int .u32 a, .int .u32 b] W fun e w' => e = .returned (.int .u32 (pV op a b)) ∧ W = w' := rpair_good op a b W Ha Hb h1 h2
theorem norm_quiet (x : Int) (H : U32 x) (W : World) : Calls Try.prog 15 #[.int .u32 x] W fun e w' => e = .returned (.int .i64 (nrm x)) ∧ W = w' := norm_any x W H
theorem rnorm_quiet (x : Int) (H : U32 x) (W : World) : Calls Try.prog 16 #[.int .u32 x] W fun e w' => e = .returned (.int .i64 (nrm x)) ∧ W = w' := rnorm_any x W H
theorem make_quiet (x y : Int) (W : World) : Calls Try.prog 17 #[.int .i64 x, .int .i64 y] W fun e w' => e = .returned (.int .u32 (mk x y)) ∧ W = w' := make_any x y W
theorem rmake_quiet (x y : Int) (W : World) : Calls Try.prog 18 #[.int .i64 x, .int .i64 y] W fun e w' => e = .returned (.int .u32 (mk x y)) ∧ W = w' := rmake_any x y W
theorem num_quiet (x : Int) (W : World) : Calls Try.prog 12 #[.int .i64 x] W fun e w' => e = .returned (.int .i64 x) ∧ W = w' := num_any x W

theorem quietFirst {P : Program} {f : FuncId} {args : Array Value} {v : Value} (h : ∀ W : World, Calls P f args W fun e w' => e = .returned v ∧ W = w') (w : World) (n : Nat) :
    Calls P f args (w.drewN n) fun e w'' => e = .returned v ∧ ∃ m, w'' = w.drewN m := (h _).mono fun _ _ ⟨he, hm⟩ => ⟨he, n, hm.symm⟩
theorem quietNext {P : Program} {f : FuncId} {args : Array Value} {v : Value} (h : ∀ W : World, Calls P f args W fun e w' => e = .returned v ∧ W = w') (w : World) (a n : Nat) :
    Calls P f args (w.drewN (a + n)) fun e w'' => e = .returned v ∧ ∃ m, w'' = w.drewN (a + m) := (h _).mono fun _ _ ⟨he, hm⟩ => ⟨he, n, hm.symm⟩

theorem Owned.at_ {w : World} {base g n cap : Nat} {xs : List Int} (h : Owned w base g n cap xs) {k : Nat} (hk : k < n) : ∃ x, U32 x ∧ w.cell? ⟨g, k, none⟩ = some (.int .u32 x) := by
  have hl : xs.length = n := by have := h.1.1; simpa using this
  refine ⟨xs[k], h.2 _ (List.getElem_mem _), ?_⟩
  rw [h.1.cellAt k (by omega), List.getElem?_map, List.getElem?_eq_getElem (by omega)]
  rfl
theorem Owned.mono {w : World} {base base' g n cap : Nat} {xs : List Int} (h : Owned w base g n cap xs) (hb : base' ≤ base) : Owned w base' g n cap xs := by
  refine ⟨⟨h.1.1, ?_⟩, h.2⟩
  rcases h.1.2 with h' | ⟨g', cap', cur, h', hg, hr⟩
  · exact .inl h'
  · exact .inr ⟨g', cap', cur, h', by omega, hr⟩
theorem Owned.drewN {w : World} {base g n cap : Nat} {xs : List Int} (h : Owned w base g n cap xs) (m : Nat) : Owned (w.drewN m) base g n cap xs := h

/-- A slice of integers as it comes in: nil, or its numbers lie in old memory; it takes no more than the reach of what is read. -/
def SliceIn (k : IntKind) (bytes : Nat) (w : World) (A : Option Addr) (n c : Nat) : Prop :=
  (A = none ∧ n = 0 ∧ c = 0) ∨ ∃ (ad : Addr) (zs : List Int), A = some ad ∧ (0 < n → ad.block < w.heap.size) ∧ zs.length = n ∧ (∀ x ∈ zs, (Lit.int k x).wf = true) ∧
    (∀ j u, (zs.map (Value.int k))[j]? = some u → w.cell? (ad.add j) = some u) ∧ n * bytes ≤ 140737488351232

theorem SliceIn.alloc {k : IntKind} {bytes : Nat} {w : World} {A : Option Addr} {n c : Nat} (h : SliceIn k bytes w A n c) (o : Obj) : SliceIn k bytes (w.alloc o) A n c := by
  rcases h with h | ⟨ad, zs, rfl, hb, hl, hz, hc, hn⟩
  · exact .inl h
  · refine .inr ⟨ad, zs, rfl, fun h0 => by have := hb h0; simp; omega, hl, hz, fun j u hu => ?_, hn⟩
    have hj : 0 < n := by
      have := (List.getElem?_eq_some_iff.1 hu).1
      rw [List.length_map, hl] at this
      omega
    exact (World.cell?_alloc_lt _ _ _ (by rw [block_add]; exact hb hj)).trans (hc j u hu)

theorem u32_wf {x : Int} (h : (Lit.int .u32 x).wf = true) : U32 x := by
  have h1 : IntKind.u32.min = 0 := rfl
  have h2 : IntKind.u32.max = 4294967295 := rfl
  simp only [Lit.wf, Bool.and_eq_true, decide_eq_true_eq] at h
  unfold U32
  omega

theorem words_any {w : World} {A : Option Addr} {n c : Nat} (h : SliceIn .u32 4 w A n c) (A2 : Option Addr) (n2 c2 : Nat) :
    Calls Try.prog 7 #[.agg #[.slice A n c, .slice A2 n2 c2]] w (WordsPost w) := by
  rcases h with ⟨rfl, rfl, rfl⟩ | ⟨ad, zs, rfl, hb, hl, hz, hc, hn⟩
  · exact words_nil A2 n2 c2 w
  · exact words_some ad A2 n c n2 c2 zs w hb hl (fun x hx => u32_wf (hz x hx)) hc hn

def TruePost (w : World) (e : Ending) (w' : World) : Prop := e = .returned (.bool true) ∧ Below w.heap.size w w'
end Go.Proofs.Ytlmbgpcmljgnkaa
