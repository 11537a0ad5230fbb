/-
  LexNames, walked: on two slices it is true; it makes new memory alone.
-/
import Derived.Test.YtddbfhdhldnoiaaDoorNw
namespace Go.Proofs.YtddbfhdhldnoiaaDoor
open Go.RowKit

theorem Tryd.info9c : (Tryd.prog.info? 9).map (fun i => ((i.zero.map fun z => z.cells.size), i.size, i.bytes)) = some (some 1, 1, 16) := by kernel_rfl
theorem info9_parts : ∃ i z, Tryd.prog.info? 9 = some i ∧ i.zero = some z ∧ i.size = 1 ∧ i.bytes = 16 ∧ z.cells.size = 1 := by
  obtain ⟨i, hi, he⟩ := Option.map_eq_some_iff.1 Tryd.info9c
  simp only [Prod.mk.injEq] at he
  obtain ⟨z, hz, hc⟩ := Option.map_eq_some_iff.1 he.1
  exact ⟨i, z, hi, hz, he.2.1, he.2.2, hc⟩
theorem str_one (ss : List ByteArray) : ∀ u ∈ ss.map Value.string, u.oneCell' = true := by
  intro u hu
  obtain ⟨s, _, rfl⟩ := List.mem_map.1 hu
  rfl
/-- append of some strings to a row of one's own. -/
theorem appS {ops : Array Oper} {rest : List Oper} {o : Oper} {a : Act} {Q : Exit → Act → World → Prop} (hgd : o.guard = none) (s x : Operand) (ho : o.op = .call { callee := .builtin .append, args := #[s, x], argTypes := #[22, 22] })
    (W : World) (B n c : Nat) (va : Option Addr) (xs : List ByteArray) (ts : List ByteArray) (m : Nat) (hm : ts.length = m) (hm0 : 0 < m) (hs : a.eval s = .slice va n c) (hown : W.ownsRow B 9 1 (.slice va n c) n (xs.map Value.string)) (hn : n + m ≤ 1000000000) (g0 : Nat) (hx : a.eval x = .slice (some ⟨g0, 0, none⟩) m m) (cs : Array Value) (hg0 : BK 9 W g0 cs) (hcs : cs.toList = ts.map Value.string) (hB : B ≤ W.heap.size)
    (h : ∀ g cap w', w'.ownsRow B 9 1 (.slice (some ⟨g, 0, none⟩) (n + m) cap) (n + m) ((xs ++ ts).map Value.string) → W.grownBy w' (ob va) → wpList Tryd.prog ops Q rest (a.put o.dst (.slice (some ⟨g, 0, none⟩) (n + m) cap)) w') :
    wpList Tryd.prog ops Q (o :: rest) a W := by
  obtain ⟨i, z, hi, hz, h1, h2, h3⟩ := info9_parts
  refine wpList_append_lies W hgd s x 22 ho B 9 i z 1 16 Tryd.underlying22 hi hz h1 h2 h3 (by decide) (.slice va n c) n (xs.map Value.string) hs hown ⟨g0, 0, none⟩ m m (ts.map Value.string) hx (by rw [List.length_map, hm, Nat.mul_one]) (fun j u hu => World.news_of_block hg0 j u (by rw [hcs]; exact hu)) (str_one ts) hm0 (by unfold maxLen; omega) (by omega) hB _ rfl ?_
  intro g cap w' o1 o2 _ _
  refine h g cap w' ?_ (by rw [own_ob] at o2; exact o2)
  rw [List.map_append]
  exact o1
/-- A row of strings of one's own reads as strings. -/
theorem rds_own {w : World} {B : Nat} {v : Value} {ss : List ByteArray} (h : w.ownsRow B 9 1 v ss.length (ss.map Value.string)) : RdS w v ss := by
  rcases h.2 with ⟨rfl, h0⟩ | ⟨g, cap, cur, rfl, hb, hg, _⟩
  · exact ⟨none, 0, by rw [h0], fun h1 => absurd h1 (by omega)⟩
  · exact ⟨_, _, rfl, fun _ => ⟨_, rfl, lt_of_heap hg, fun j s hs => h.cells rfl j _ (by rw [List.getElem?_map, hs]; rfl)⟩⟩
/-- The texts that LexNames plays ahead. -/
def nmL0 : List ByteArray := [⟨#[]⟩, ⟨#[32]⟩, ⟨#[59]⟩, ⟨#[97, 59, 98]⟩, ⟨#[97, 32, 59, 32, 98, 10]⟩, ⟨#[10]⟩, ⟨#[46]⟩, ⟨#[46, 46]⟩, ⟨#[46, 97]⟩, ⟨#[97, 46, 98]⟩, ⟨#[95]⟩, ⟨#[97, 49]⟩, ⟨#[49, 97]⟩, ⟨#[97, 98, 99, 100, 101, 102, 103, 104, 105, 106, 107, 108]⟩, ⟨#[97, 98, 99, 100, 101, 102, 103, 104, 105, 106, 107, 108, 109]⟩, ⟨#[65]⟩, ⟨#[64, 49]⟩, ⟨#[97, 64, 98]⟩, ⟨#[58]⟩, ⟨#[58, 58]⟩, ⟨#[97, 58, 98]⟩, ⟨#[40]⟩, ⟨#[40, 41]⟩, ⟨#[97, 43, 98, 45, 99, 42, 100]⟩, ⟨#[35]⟩, ⟨#[114, 49, 44, 114, 50]⟩, ⟨#[9, 9, 120]⟩, ⟨#[128]⟩]
theorem nm_small : ∀ s ∈ nmL0, s.size ≤ 100 := by decide
def nmV : Array Value := (nmL0.map Value.string).toArray
theorem conv_one (W : World) (i : Nat) (hi : i < 256) : (convert 42 9 (.slice (some ⟨W.heap.size, 0, none⟩) 1 1)).run Tryd.prog (W.alloc (.cells #[.int .u8 i] 5)) = .ok (.string ⟨#[UInt8.ofNat i]⟩) (W.alloc (.cells #[.int .u8 i] 5)) :=
  run_convert_bytes_back (W.alloc (.cells #[.int .u8 i] 5)) 42 9 5 ⟨W.heap.size, 0, none⟩ 1 [UInt8.ofNat i] Tryd.underlying42 Tryd.underlying5 Tryd.underlying9 (fun j hj => by
    have h0 : j = 0 := by simp only [List.length_cons, List.length_nil] at hj; omega
    subst h0
    have hk : BK 5 (W.alloc (.cells #[.int .u8 i] 5)) W.heap.size #[.int .u8 i] := heap_alloc_new W _
    have := hk.cell 0
    rw [show (⟨W.heap.size, 0, none⟩ : Addr).add 0 = ⟨W.heap.size, 0, none⟩ from rfl, this]
    have : ((UInt8.ofNat i).toNat : Int) = (i : Int) := by
      rw [UInt8.toNat_ofNat_of_lt' (by show i < 256; exact hi)]
    show some (Value.int .u8 (i : Int)) = some (Value.int .u8 ((UInt8.ofNat i).toNat : Int))
    rw [this])
set_option maxHeartbeats 1000000 in
set_option maxRecDepth 4000 in
theorem lexNames_walk (A1 A2 : Option Addr) (n1 c1 n2 c2 : Nat) (w : World) (H : Tab w) : Calls Tryd.prog 6 #[.agg #[.slice A1 n1 c1, .slice A2 n2 c2]] w (BoolBelow true w) := by
  have TB := Lib.hid H
  clear H
  have hd' : decide ((n2 : Int) ≥ 0) = true := by simp
  have hd0 : decide ((0 : Int) ≤ (n2 : Int)) = true := by simp
  go_enter Tryd.func6, Tryd.ntmps6
  go_wp2_with fail
  have B0 := Lib.hid (below_new w (.cells #[.slice A1 n1 c1, .slice A2 n2 c2] 25))
  have B1 := Lib.hid (B0.out.trans ((below_new (w.alloc (.cells #[.slice A1 n1 c1, .slice A2 n2 c2] 25)) (.cells nmV 9)).mono B0.out.size))
  have K0 := Lib.hid (show BK 25 ((w.alloc (.cells #[.slice A1 n1 c1, .slice A2 n2 c2] 25)).alloc (.cells nmV 9)) w.heap.size #[.slice A1 n1 c1, .slice A2 n2 c2] from BK.alloc (heap_alloc_new w _) _)
  have O1 := Lib.hid (World.ownsRow_lit (base := w.heap.size + 1) (e := 9) (size := 1) (w.alloc (.cells #[.slice A1 n1 c1, .slice A2 n2 c2] 25)) nmV 28 (by simp) (by decide) rfl)
  rw [show (w.alloc (.cells #[.slice A1 n1 c1, .slice A2 n2 c2] 25)).heap.size = w.heap.size + 1 by simp] at O1
  have LT := Lib.hid (show w.heap.size + 1 ≤ ((w.alloc (.cells #[.slice A1 n1 c1, .slice A2 n2 c2] 25)).alloc (.cells nmV 9)).heap.size by simp)
  go_loopg [3, 4] 256 (fun gk l o wr2 => ∃ (i : Nat) (ss : List ByteArray) (va : Option Addr) (cc : Nat), i ≤ 256 ∧ gk = 256 - i ∧ l = .slice va ss.length cc ∧ o = .int .i64 i ∧ ss.length = 28 + 2 * i ∧ (∀ s ∈ ss, s.size ≤ 100) ∧ wr2.ownsRow (w.heap.size + 1) 9 1 (.slice va ss.length cc) ss.length (ss.map Value.string) ∧ BK 25 wr2 w.heap.size #[.slice A1 n1 c1, .slice A2 n2 c2] ∧ w.heap.size + 1 ≤ wr2.heap.size ∧ Below w.heap.size w wr2)
  case atStart => exact ⟨0, nmL0, _, _, by decide, rfl, rfl, rfl, rfl, nm_small, O1.out, K0.out, LT.out, B1.out⟩
  case round =>
    obtain ⟨i, ss, va, cc, hi, rfl, rfl, rfl, hl, hsm, hown, hk, hlt, hb⟩ := hrel
    have HL := Lib.hid hl
    have SM := Lib.hid hsm
    have OW := Lib.hid hown
    have KB := Lib.hid hk
    have HT := Lib.hid hlt
    have HB := Lib.hid hb
    clear hl hsm hown hk hlt hb O1 K0 LT B1 B0
    by_cases hlt : i < 256
    · have hd : decide ((i : Int) < 256) = true := decide_eq_true (by omega)
      have i0 : (0 : Int) ≤ (i : Int) := by omega
      have i1 : (i : Int) < 256 := by omega
      obtain ⟨S0, hS0, cv1, cv2⟩ : ∃ S0 : ByteArray, S0.size = 1 ∧ (convert 42 9 (.slice (some ⟨wr.heap.size, 0, none⟩) 1 1)).run Tryd.prog (wr.alloc (.cells #[.int .u8 (i : Int)] 5)) = .ok (.string S0) (wr.alloc (.cells #[.int .u8 (i : Int)] 5)) ∧ (convert 42 9 (.slice (some ⟨wr.heap.size + 1, 0, none⟩) 1 1)).run Tryd.prog ((wr.alloc (.cells #[.int .u8 (i : Int)] 5)).alloc (.cells #[.int .u8 (i : Int)] 5)) = .ok (.string S0) ((wr.alloc (.cells #[.int .u8 (i : Int)] 5)).alloc (.cells #[.int .u8 (i : Int)] 5)) :=
        ⟨_, rfl, conv_one wr i hlt, by have h := conv_one (wr.alloc (.cells #[.int .u8 (i : Int)] 5)) i hlt; rw [show (wr.alloc (.cells #[.int .u8 (i : Int)] 5)).heap.size = wr.heap.size + 1 by simp] at h; exact h⟩
      have Z0 := Lib.hid hS0
      have BA := Lib.hid ((((below_new wr (.cells #[.int .u8 (i : Int)] 5)).alloc (by simp) (.cells #[.int .u8 (i : Int)] 5)).alloc (by simp; omega) (.cells #[.string S0, .string (⟨#[97]⟩ ++ S0 ++ ⟨#[49]⟩ : ByteArray)] 9)))
      go_wp2_with (at_builtin; refine appS rfl _ _ rfl (((wr.alloc (.cells #[.int .u8 (i : Int)] 5)).alloc (.cells #[.int .u8 (i : Int)] 5)).alloc (.cells #[.string S0, .string (⟨#[97]⟩ ++ S0 ++ ⟨#[49]⟩ : ByteArray)] 9)) (w.heap.size + 1) ss.length cc va ss [S0, (⟨#[97]⟩ ++ S0 ++ ⟨#[49]⟩ : ByteArray)] 2 rfl (by decide) rfl (((OW.out.alloc _).alloc _).alloc _) (by have := HL.out; omega) (wr.heap.size + 2) rfl #[.string S0, .string (⟨#[97]⟩ ++ S0 ++ ⟨#[49]⟩ : ByteArray)] (by exact BK.new (by simp)) rfl (by have := HT.out; simp; omega) ?_; intro gA capA wA hownA hgA)
      have LE3 := Lib.hid (show wr.heap.size + 3 = (((wr.alloc (.cells #[.int .u8 (i : Int)] 5)).alloc (.cells #[.int .u8 (i : Int)] 5)).alloc (.cells #[.string S0, .string (⟨#[97]⟩ ++ S0 ++ ⟨#[49]⟩ : ByteArray)] 9)).heap.size by simp)
      have B3 := Lib.hid (HB.out.trans (BA.out.mono HB.out.size))
      have KA := Lib.hid ((((KB.out.alloc (.cells #[.int .u8 (i : Int)] 5)).alloc (.cells #[.int .u8 (i : Int)] 5)).alloc (.cells #[.string S0, .string (⟨#[97]⟩ ++ S0 ++ ⟨#[49]⟩ : ByteArray)] 9)).grown hgA (fun e => by
        have h1 := (OW.out.lt w.heap.size (by rw [own_ob]; exact e.symm)).1
        omega))
      have BB := Lib.hid (B3.out.grown hgA (by have := LE3.out; have := HT.out; omega) (fun k hk => by
        have h1 := (OW.out.lt k (by rw [own_ob]; exact hk)).1
        omega))
      have LA := Lib.hid (show w.heap.size + 1 ≤ wA.heap.size by have h1 := hgA.size; have := LE3.out; have := HT.out; omega)
      have OA := Lib.hid hownA
      have SZ := Lib.hid (show ((⟨#[97]⟩ ++ S0 ++ ⟨#[49]⟩ : ByteArray)).size ≤ 100 by rw [ByteArray.size_append', ByteArray.size_append', hS0]; decide)
      have S1 := Lib.hid (show S0.size ≤ 100 by rw [hS0]; decide)
      clear hownA hgA cv1 cv2 hS0 BA B3 LE3
      generalize ((⟨#[97]⟩ ++ S0 ++ ⟨#[49]⟩ : ByteArray)) = S2 at *
      go_roundg (256 - (i + 1))
      case measure => omega
      case rel => exact ⟨i + 1, ss ++ [S0, S2], _, _, by omega, rfl, by rw [List.length_append]; rfl, by go_num, by rw [List.length_append, HL.out]; show 28 + 2 * i + 2 = _; omega, fun s hs => by
        rcases List.mem_append.1 hs with h | h
        · exact SM.out s h
        · simp only [List.mem_cons, List.not_mem_nil, or_false] at h
          rcases h with rfl | rfl
          · exact S1.out
          · exact SZ.out, by rw [List.length_append]; exact OA.out, KA.out, LA.out, BB.out⟩
    · have hd : decide ((i : Int) < 256) = false := by simp; omega
      go_wp2_with fail
      have hi256 : i = 256 := by omega
      have HL := Lib.hid (show ss.length = 540 by rw [HL.out, hi256])
      clear hd hlt hi hi256
      go_loopg [3, 5, 6] 45 (fun gk l t o wr2 => ∃ (i : Nat) (s5 : ByteArray) (ss : List ByteArray) (va : Option Addr) (cc : Nat), i ≤ 45 ∧ gk = 45 - i ∧ l = .slice va ss.length cc ∧ t = .string s5 ∧ o = .int .i64 i ∧ s5.size = i ∧ ss.length = 540 + i ∧ (∀ s ∈ ss, s.size ≤ 100) ∧ wr2.ownsRow (w.heap.size + 1) 9 1 (.slice va ss.length cc) ss.length (ss.map Value.string) ∧ BK 25 wr2 w.heap.size #[.slice A1 n1 c1, .slice A2 n2 c2] ∧ w.heap.size + 1 ≤ wr2.heap.size ∧ Below w.heap.size w wr2)
      case atStart => exact ⟨0, ⟨#[]⟩, ss, _, _, by decide, rfl, rfl, rfl, rfl, rfl, HL.out, SM.out, OW.out, KB.out, HT.out, HB.out⟩
      case round =>
        clear HL SM OW KB HT HB
        obtain ⟨i, s5, ss, va, cc, hi, rfl, rfl, rfl, rfl, h5, hl, hsm, hown, hk, hlt, hb⟩ := hrel
        have HL := Lib.hid hl
        have SM := Lib.hid hsm
        have OW := Lib.hid hown
        have KB := Lib.hid hk
        have HT := Lib.hid hlt
        have HB := Lib.hid hb
        clear hl hsm hown hk hlt hb
        by_cases hlt : i < 45
        · have hd : decide ((i : Int) < 45) = true := decide_eq_true (by omega)
          have i0 : (0 : Int) ≤ (i : Int) := by omega
          have i1 : (i : Int) < 45 := by omega
          have SZ := Lib.hid (show ((s5 ++ ⟨#[43]⟩ : ByteArray)).size = i + 1 by rw [ByteArray.size_append', h5]; rfl)
          have H5 := Lib.hid h5
          have hz5 : s5.size ≤ 45 := by omega
          clear h5
          have BA := Lib.hid (below_new wr (.cells #[.string (s5 ++ ⟨#[43]⟩ : ByteArray)] 9))
          go_wp2_with (at_builtin; refine appS rfl _ _ rfl (wr.alloc (.cells #[.string (s5 ++ ⟨#[43]⟩ : ByteArray)] 9)) (w.heap.size + 1) ss.length cc va ss [(s5 ++ ⟨#[43]⟩ : ByteArray)] 1 rfl (by decide) rfl (OW.out.alloc _) (by have := HL.out; omega) wr.heap.size rfl #[.string (s5 ++ ⟨#[43]⟩ : ByteArray)] (by exact heap_alloc_new wr _) rfl (by have := HT.out; simp; omega) ?_; intro gA capA wA hownA hgA)
          have LE3 := Lib.hid (show wr.heap.size + 1 = (wr.alloc (.cells #[.string (s5 ++ ⟨#[43]⟩ : ByteArray)] 9)).heap.size by simp)
          have B3 := Lib.hid (HB.out.trans (BA.out.mono HB.out.size))
          have KA := Lib.hid ((KB.out.alloc (.cells #[.string (s5 ++ ⟨#[43]⟩ : ByteArray)] 9)).grown hgA (fun e => by
            have h1 := (OW.out.lt w.heap.size (by rw [own_ob]; exact e.symm)).1
            omega))
          have BB := Lib.hid (B3.out.grown hgA (by have := LE3.out; have := HT.out; omega) (fun k hk => by
            have h1 := (OW.out.lt k (by rw [own_ob]; exact hk)).1
            omega))
          have LA := Lib.hid (show w.heap.size + 1 ≤ wA.heap.size by have h1 := hgA.size; have := LE3.out; have := HT.out; omega)
          have OA := Lib.hid hownA
          clear hownA hgA BA B3 LE3
          generalize ((s5 ++ ⟨#[43]⟩ : ByteArray)) = S2 at *
          go_roundg (45 - (i + 1))
          case measure => omega
          case rel => exact ⟨i + 1, S2, ss ++ [S2], _, _, by omega, rfl, by rw [List.length_append]; rfl, rfl, by go_num, SZ.out, by rw [List.length_append, HL.out]; show 540 + i + 1 = _; omega, fun s hs => by
            rcases List.mem_append.1 hs with h | h
            · exact SM.out s h
            · simp only [List.mem_cons, List.not_mem_nil, or_false] at h
              subst h
              have := SZ.out
              omega, by rw [List.length_append]; exact OA.out, KA.out, LA.out, BB.out⟩
        · have hd : decide ((i : Int) < 45) = false := by simp; omega
          have k1 := KB.out.cell 1
          go_wp2_with fail
          refine (same_any ss _ _ (rds_own OW.out) (fun s hs => by have := SM.out s hs; unfold maxLen; omega) (by have := HL.out; omega) (TB.out.below HB.out)).mono ?_
          rintro e w1 ⟨rfl, b1⟩
          have B2 := Lib.hid (HB.out.trans (b1.mono HB.out.size))
          clear b1
          go_wp2_with fail
          go_ret
          exact ⟨rfl, B2.out⟩
end Go.Proofs.YtddbfhdhldnoiaaDoor
