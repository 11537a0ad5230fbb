/-
  Contracts: a copy of words, equality of two rows of words that are the same, of any length that memory holds. They make new memory alone.
-/
import Derived.Test.YtddbfhdhldnoiaaDoorPh
namespace Go.Proofs.YtddbfhdhldnoiaaDoor
open Go.RowKit

/-- append of one word to a row of one's own. -/
theorem app4w {ops : Array Oper} {rest : List Oper} {o : Oper} {a : Act} {Q : Exit → Act → World → Prop} (hgd : o.guard = none) (s x : Operand) (ho : o.op = .call { callee := .builtin .append, args := #[s, x], argTypes := #[27, 27] })
    (W : World) (B n c : Nat) (va : Option Addr) (xs : List Tk) (t : Tk) (hs : a.eval s = .slice va n c) (hown : W.ownsRow B 47 4 (.slice va n c) n (flat4 xs)) (hn : n * 40 + 40 ≤ 140737488355328) (g0 : Nat) (hx : a.eval x = .slice (some ⟨g0, 0, none⟩) 1 1) (cs : Array Value) (hg0 : BK 47 W g0 cs) (hcs : cs.toList = t.list) (hB : B ≤ W.heap.size)
    (h : ∀ g cap w', w'.ownsRow B 47 4 (.slice (some ⟨g, 0, none⟩) (n + 1) cap) (n + 1) (flat4 (xs ++ [t])) → W.grownBy w' (ob va) → wpList Tryd.prog ops Q rest (a.put o.dst (.slice (some ⟨g, 0, none⟩) (n + 1) cap)) w') :
    wpList Tryd.prog ops Q (o :: rest) a W := by
  obtain ⟨i, z, hi, hz, h1, h2, h3⟩ := info47_parts
  refine wpList_append_lies W hgd s x 27 ho B 47 i z 4 40 Tryd.underlying27 hi hz h1 h2 h3 (by decide) (.slice va n c) n (flat4 xs) hs hown ⟨g0, 0, none⟩ 1 1 t.list hx rfl (fun j u hu => World.news_of_block hg0 j u (by rw [hcs]; exact hu)) (tk_one t) (by decide) (by unfold maxLen; omega) (by omega) hB _ rfl ?_
  intro g cap w' o1 o2 _ _
  refine h g cap w' ?_ (by rw [own_ob] at o2; exact o2)
  rw [flat4_app]
  have e : flat4 [t] = t.list := by simp [flat4]
  rw [e]
  exact o1
set_option maxHeartbeats 1000000 in
theorem eqt_big (xs : List Tk) (v1 v2 : Value) (w : World) (h1 : RdT w v1 xs) (h2 : RdT w v2 xs) (hl : xs.length ≤ 9000000000000000) : Calls Tryd.prog 14 #[v1, v2] w (QuietBool true w) := by
  obtain ⟨A1, c1, rfl, r1⟩ := h1
  obtain ⟨A2, c2, rfl, r2⟩ := h2
  have R1 := Lib.hid r1
  have R2 := Lib.hid r2
  clear r1 r2
  generalize hn : xs.length = n at *
  have HN := Lib.hid hn
  clear hn
  have hne : ((n : Int) != (n : Int)) = false := by simp
  go_enter Tryd.func14, Tryd.ntmps14
  go_wp2
  go_loopw [5] (fun o wr2 => ∃ (i m : Nat), i ≤ n ∧ o = .int .i64 i ∧ wr2 = w.drewN m) (fun o _ => n - (intOf o).toNat)
  case atStart => exact ⟨0, 0, by omega, rfl, rfl⟩
  case round =>
    obtain ⟨i, m, hi, rfl, rfl⟩ := hrel
    by_cases hlt : i < n
    · have hd : decide ((i : Int) < (n : Int)) = true := by simpa using hlt
      have i0 : (0 : Int) ≤ (i : Int) := by omega
      have i1 : (i : Int) < (n : Int) := by omega
      have hil : i < xs.length := by have := HN.out; omega
      obtain ⟨ad1, rfl, hg1, q0, q1, q2, q3⟩ := RdT.at_ (by rw [HN.out]; exact R1.out) hil
      obtain ⟨ad2, rfl, hg2, s0, s1, s2, s3⟩ := RdT.at_ (by rw [HN.out]; exact R2.out) hil
      generalize xs[i] = f at q0 q1 q2 q3 s0 s1 s2 s3
      clear hil
      go_wp2_with fail
      go_quiet (fail)
      go_wp2
      go_roundw
      case rel => exact ⟨i + 1, _, by omega, by go_num, rfl⟩
      case measure => simp [intOf]; omega
    · have hd : decide ((i : Int) < (n : Int)) = false := by simp; omega
      go_wp2
      go_ret
      exact ⟨rfl, m, rfl⟩
def CpPost (xs : List Tk) (w : World) (e : Ending) (w' : World) : Prop := ∃ v, e = .returned v ∧ w'.ownsRow w.heap.size 47 4 v xs.length (flat4 xs) ∧ Below w.heap.size w w'
set_option maxHeartbeats 1000000 in
theorem copy_any (xs : List Tk) (v : Value) (w : World) (h : RdT w v xs) (hl : xs.length * 40 ≤ 140737488351232) : Calls Tryd.prog 8 #[v] w (CpPost xs w) := by
  obtain ⟨A, c, rfl, r⟩ := h
  have R := Lib.hid r
  clear r
  generalize hn : xs.length = n at *
  have HN := Lib.hid hn
  clear hn
  have HL := Lib.hid hl
  go_enter Tryd.func8, Tryd.ntmps8
  go_wp2_with fail
  go_loopg [3, 4] n (fun gk l o wr2 => ∃ (i : Nat) (va : Option Addr) (cc : Nat), i ≤ n ∧ gk = n - i ∧ o = .int .i64 i ∧ l = .slice va i cc ∧ wr2.ownsRow w.heap.size 47 4 (.slice va i cc) i (flat4 (xs.take i)) ∧ Below w.heap.size w wr2)
  case atStart => exact ⟨0, none, 0, Nat.zero_le _, rfl, rfl, rfl, World.ownsRow_nil _ _ _ _, Below.refl _ _⟩
  case round =>
    obtain ⟨i, va, cc, hi, rfl, rfl, rfl, hown, hb⟩ := hrel
    have OW := Lib.hid hown
    have HB := Lib.hid hb
    clear hown hb
    by_cases hlt : i < n
    · have hd : decide ((i : Int) < (n : Int)) = true := by simpa using hlt
      have i0 : (0 : Int) ≤ (i : Int) := by omega
      have i1 : (i : Int) < (n : Int) := by omega
      have hil : i < xs.length := by have := HN.out; omega
      obtain ⟨ad, rfl, hg, q0, q1, q2, q3⟩ := RdT.at_ (by rw [HN.out]; exact R.out) hil
      have k0 := (HB.out.cell (p := ad.add (i * 4)) (by rw [block_add]; exact hg)).trans q0
      have k1 := (HB.out.cell (p := ⟨(ad.add (i * 4)).block, (ad.add (i * 4)).off + 1, none⟩) (by show (ad.add (i * 4)).block < _; rw [block_add]; exact hg)).trans q1
      have k2 := (HB.out.cell (p := ⟨(ad.add (i * 4)).block, (ad.add (i * 4)).off + 2, none⟩) (by show (ad.add (i * 4)).block < _; rw [block_add]; exact hg)).trans q2
      have k3 := (HB.out.cell (p := ⟨(ad.add (i * 4)).block, (ad.add (i * 4)).off + 3, none⟩) (by show (ad.add (i * 4)).block < _; rw [block_add]; exact hg)).trans q3
      have TS := Lib.hid (show xs.take (i + 1) = xs.take i ++ [xs[i]] from List.take_succ_eq_append_getElem hil)
      generalize xs[i] = f at k0 k1 k2 k3 TS
      clear q0 q1 q2 q3 hg hil
      go_wp2_with (at_builtin; refine app4w rfl _ _ rfl (wr.alloc (.cells #[.int .i64 f.k, .string ⟨f.t.toArray⟩, .int .i64 f.n, .int .i64 f.a] 47)) w.heap.size i cc va (xs.take i) f rfl (OW.out.alloc _) (by have := HL.out; omega) wr.heap.size rfl #[.int .i64 f.k, .string ⟨f.t.toArray⟩, .int .i64 f.n, .int .i64 f.a] (by exact heap_alloc_new wr _) rfl (by have := HB.out.size; simp; omega) ?_; intro gA capA wA hownA hgA; have OA := Lib.hid hownA; have BA := Lib.hid (((HB.out.trans ((below_new wr (.cells #[.int .i64 f.k, .string ⟨f.t.toArray⟩, .int .i64 f.n, .int .i64 f.a] 47)).mono HB.out.size))).grown hgA (by have := HB.out.size; simp; omega) (fun k hk => (OW.out.lt k (by rw [own_ob]; exact hk)).1)); clear hownA hgA)
      go_roundg (n - (i + 1))
      case measure => omega
      case rel => exact ⟨i + 1, _, _, by omega, rfl, by go_num, rfl, by rw [TS.out]; exact OA.out, BA.out⟩
    · have hd : decide ((i : Int) < (n : Int)) = false := by simp; omega
      have hin : i = n := by omega
      subst hin
      have OF := Lib.hid (show wr.ownsRow w.heap.size 47 4 (.slice va i cc) i (flat4 xs) by
        have h := OW.out
        rwa [List.take_of_length_le (by have := HN.out; omega)] at h)
      go_wp2_with fail
      go_ret
      exact ⟨_, rfl, by rw [HN.out]; exact OF.out, HB.out⟩
end Go.Proofs.YtddbfhdhldnoiaaDoor
