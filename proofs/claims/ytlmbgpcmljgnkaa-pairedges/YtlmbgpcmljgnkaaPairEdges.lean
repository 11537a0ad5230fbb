/-
  PairEdges: for every input the law returns true: of parts at the edges of their range each op, parts and norms are the page's, by pairs made here; the input reads behind the call as it read before. No condition.
-/
import Derived.Test.YtlmbgpcmljgnkaaShell
import Derived.Test.YtlmbgpcmljgnkaaRow
import Derived.Deep.QuietTactic
import Derived.BigQuiet
namespace Go.Proofs.Ytlmbgpcmljgnkaa
open Go.ChangeShapes Go.WideShapes Go.ChangeAt Go.RowKit Go.Joins

def edges (r : Int) : List Int := [-32768, -32767, -1, 0, 1, 2, 181, 182, 32766, 32767, r]
theorem edges_in {r : Int} (h0 : 0 ≤ r) (h1 : r < 100) : ∀ x ∈ edges r, I16 x := by
  intro x hx
  simp [edges] at hx
  unfold I16
  omega
theorem i16_wf {x : Int} (h : I16 x) : (Lit.int .i64 x).wf = true := by
  have h1 : IntKind.i64.min = -9223372036854775808 := rfl
  have h2 : IntKind.i64.max = 9223372036854775807 := rfl
  unfold I16 at h
  simp only [Lit.wf, Bool.and_eq_true, decide_eq_true_eq]
  omega
theorem edges_owned (w : World) (o : Obj) {r : Int} (h0 : 0 ≤ r) (h1 : r < 100) : OwnedN ((w.alloc o).alloc (.cells #[.int .i64 (-32768), .int .i64 (-32767), .int .i64 (-1), .int .i64 0, .int .i64 1, .int .i64 2, .int .i64 181, .int .i64 182, .int .i64 32766, .int .i64 32767, .int .i64 r] 3)) w.heap.size (w.heap.size + 1) 11 11 (edges r) := by
  have h := World.ownsRow_lit (base := w.heap.size) (e := 3) (size := 1) (w.alloc o) #[.int .i64 (-32768), .int .i64 (-32767), .int .i64 (-1), .int .i64 0, .int .i64 1, .int .i64 2, .int .i64 181, .int .i64 182, .int .i64 32766, .int .i64 32767, .int .i64 r] 11 (by simp) (by unfold maxLen; omega) rfl
  exact ⟨by simpa [edges] using h, fun x hx => i16_wf (edges_in h0 h1 x hx)⟩
theorem edge_at {w : World} {base g cap : Nat} {r : Int} (h : OwnedN w base g 11 cap (edges r)) (h0 : 0 ≤ r) (h1 : r < 100) {k : Nat} (hk : k < 11) : ∃ x, I16 x ∧ w.cell? ⟨g, k, none⟩ = some (.int .i64 x) := by
  have hl : (edges r).length = 11 := rfl
  refine ⟨(edges r)[k], edges_in h0 h1 _ (List.getElem_mem _), ?_⟩
  rw [h.1.cellAt k (by omega), List.getElem?_map, List.getElem?_eq_getElem (by omega)]
  rfl

/-- Where the pairs have come to: so many words in a row of the call's own behind the parts, which stand as they were laid. -/
def St (w : World) (r : Int) (l : Value) (n : Nat) (xs : List Int) (wr : World) : Prop :=
  wr.ownsRow (w.heap.size + 2) 28 1 l n (xs.map (Value.int .u32)) ∧ (∀ x ∈ xs, U32 x) ∧ OwnedN wr w.heap.size (w.heap.size + 1) 11 11 (edges r) ∧ w.heap.size + 2 ≤ wr.heap.size ∧ Below w.heap.size w wr
theorem St.drewN {w wr : World} {r : Int} {l : Value} {n : Nat} {xs : List Int} (h : St w r l n xs wr) (m : Nat) : St w r l n xs (wr.drewN m) :=
  ⟨h.1, h.2.1, h.2.2.1, h.2.2.2.1, below_drewN h.2.2.2.2 _⟩
theorem St.step {w wr w3 : World} {r x : Int} {l v : Value} {n : Nat} {xs : List Int} {o : Obj} (h : St w r l n xs wr) (hx : U32 x)
    (hown : w3.ownsRow (w.heap.size + 2) 28 1 v (n + 1) (xs.map (Value.int .u32) ++ [.int .u32 x])) (hg : (wr.alloc o).grownBy w3 l.ownBlock) : St w r v (n + 1) (xs ++ [x]) w3 := by
  obtain ⟨h1, h2, h3, h4, h5⟩ := h
  have hlt := h1.lt
  have hs : (wr.alloc o).heap.size ≤ w3.heap.size := hg.size
  refine ⟨by rw [List.map_append]; exact hown, ?_, ⟨?_, h3.2⟩, ?_, ?_⟩
  · intro y hy
    rcases List.mem_append.1 hy with h | h
    · exact h2 y h
    · simp at h; subst h; exact hx
  · refine (h3.1.alloc o).kept hg (.inr ?_)
    intro he
    have := (hlt (w.heap.size + 1) he.symm).1
    omega
  · simp at hs; omega
  · exact (h5.alloc (by omega) o).grown hg (by simp; omega) (by intro k hk; have := (hlt k hk).1; omega)

set_option maxHeartbeats 4000000 in
set_option maxRecDepth 100000 in
theorem pairEdges_walk (A1 A2 : Option Addr) (n1 c1 n2 c2 : Nat) (w : World) (_s1 : SliceIn .u32 4 w A1 n1 c1) (_s2 : SliceIn .i64 8 w A2 n2 c2) :
    Calls Try.prog 5 #[.agg #[.slice A1 n1 c1, .slice A2 n2 c2]] w (TruePost w) := by
  clear _s1 _s2
  have R0 := Lib.hid (show (0 : Int) ≤ (n1 : Int) % 100 by omega)
  have R1 := Lib.hid (show (n1 : Int) % 100 < 100 by omega)
  obtain ⟨i0, hi, hz0, hz1, hz2⟩ := info_parts Try.info28
  have HI := Lib.hid hi
  have HZ0 := Lib.hid hz0
  have HZ1 := Lib.hid hz1
  have HZ2 := Lib.hid hz2
  clear hi hz0 hz1 hz2
  go_enter Try.func5, Try.ntmps5
  go_wp2_with fail
  have HE := Lib.hid (edges_owned w (.cells #[.slice A1 n1 c1, .slice A2 n2 c2] 25) R0.out R1.out)
  generalize (n1 : Int) % 100 = r at *
  go_loopw [4, 5] (fun l o wr2 => ∃ (i : Nat) (xs : List Int), i ≤ 11 ∧ o = .int .i64 i ∧ St w r l (11 * i) xs wr2) (fun _ o _ => 11 - (intOf o).toNat)
  case atStart => exact ⟨0, [], by omega, rfl, World.ownsRow_nil _ _ _ _, by simp, HE.out, by simp, two_below w _ _⟩
  case round =>
    clear HE
    obtain ⟨i, xs, hi, rfl, hst⟩ := hrel
    have HT := Lib.hid hst
    clear hst
    by_cases hilt : i < 11
    · have hd3 : decide ((i : Int) < 11) = true := by simp; omega
      have hi0 : (0 : Int) ≤ (i : Int) := by omega
      have hi1 : (i : Int) < 11 := by omega
      go_wp2_with fail
      go_loopw [4, 6] (fun l o wr2 => ∃ (k : Nat) (xs : List Int), k ≤ 11 ∧ o = .int .i64 k ∧ St w r l (11 * i + k) xs wr2) (fun _ o _ => 11 - (intOf o).toNat)
      case atStart => exact ⟨0, xs, by omega, rfl, HT.out⟩
      case round =>
        clear HT
        obtain ⟨k, xs, hk, rfl, hst⟩ := hrel
        have HT := Lib.hid hst
        clear hst
        by_cases hklt : k < 11
        · have hd4 : decide ((k : Int) < 11) = true := by simp; omega
          have hk0 : (0 : Int) ≤ (k : Int) := by omega
          have hk1 : (k : Int) < 11 := by omega
          obtain ⟨p, hp, hcp⟩ := edge_at HT.out.2.2.1 R0.out R1.out hilt
          obtain ⟨q, hq, hcq⟩ := edge_at HT.out.2.2.1 R0.out R1.out hklt
          have f1 : (lo (mk p q) != p) = false := by rw [lo_mk, lo_id hp]; simp
          have f2 : (Go.Proofs.Ytlmbgpcmljgnkaa.hi (mk p q) != q) = false := by rw [hi_mk, lo_id hq]; simp
          have f3 : (nrm (mk p q) != lo (mk p q) * lo (mk p q) + Go.Proofs.Ytlmbgpcmljgnkaa.hi (mk p q) * Go.Proofs.Ytlmbgpcmljgnkaa.hi (mk p q)) = false := by simp [nrm]
          obtain ⟨b1, b2⟩ := mul_le (lo_in (mk p q)) (lo_in (mk p q))
          obtain ⟨b3, b4⟩ := mul_le (hi_in (mk p q)) (hi_in (mk p q))
          have HX := Lib.hid (mk_in p q)
          clear hp hq
          go_wp2_with fail
          go_quiet ((go_at_call 17; exact quietFirst (make_quiet _ _) _ _))
          go_wp2_with (first | (go_at_call 13; refine (parts_any _ _ HX.out).mono ?_; rintro e w' ⟨rfl, rfl⟩) | (go_at_call 15; refine (norm_any _ _ HX.out).mono ?_; rintro e w' ⟨rfl, rfl⟩) | (at_builtin; refine wpList_append_own _ rfl _ _ 22 rfl (w.heap.size + 2) 28 i0 (.int .u32 0) 1 4 Try.underlying22 HI.out HZ0.out HZ1.out HZ2.out rfl (by decide) _ (11 * i + k) (xs.map (Value.int .u32)) rfl (World.ownsRow.alloc HT.out.1 _) ⟨wr.heap.size, 0, none⟩ 1 1 [.int .u32 (mk p q)] rfl rfl ?h3 ?h4 ?h5 ?h6 ?h7 ?_))
          case h3 => exact (World.ownsRow_lit (base := 0) (e := 28) (size := 1) _ #[.int .u32 (mk p q)] 1 (by simp) (by unfold maxLen; omega) rfl).cells rfl
          case h4 => exact ints_oneCell _ [mk p q]
          case h5 => unfold maxLen; omega
          case h6 => omega
          case h7 => have := HT.out.2.2.2.1; simp; omega
          intro v' w3 hown hg _
          have HT2 := Lib.hid ((HT.out.drewN _).step HX.out hown hg)
          clear hown hg
          go_wp2
          go_roundw
          case rel => exact ⟨k + 1, _, by omega, by go_num, HT2.out⟩
          case measure => simp [intOf]; omega
        · have hd4 : decide ((k : Int) < 11) = false := by simp; omega
          have hk11 : 11 * i + k = 11 * (i + 1) := by omega
          rw [hk11] at HT
          clear hk11
          go_wp2
          go_roundw
          case rel => exact ⟨i + 1, xs, by omega, by go_num, HT.out⟩
          case measure => simp [intOf]; omega
    · have hd3 : decide ((i : Int) < 11) = false := by simp; omega
      have h121 : 11 * i = 121 := by omega
      rw [h121] at HT
      clear h121
      obtain ⟨hown, hxs, _, _, hb⟩ := HT.out
      obtain ⟨g, cap, hv⟩ := ownsRow_form hown (by omega)
      subst hv
      have HO := Lib.hid (show Owned wr (w.heap.size + 2) g 121 cap xs from ⟨hown, hxs⟩)
      have HB := Lib.hid hb
      clear hown hxs hb HT
      go_wp2_with fail
      go_loopw [10] (fun o wr2 => ∃ op : Int, 18 ≤ op ∧ op ≤ 22 ∧ o = .int .i64 op ∧ Owned wr2 (w.heap.size + 2) g 121 cap xs ∧ Below w.heap.size w wr2) (fun o _ => (22 - intOf o).toNat)
      case atStart => exact ⟨18, by omega, by omega, rfl, HO.out, HB.out⟩
      case round =>
        clear HO HB
        obtain ⟨op, hop1, hop2, rfl, hown, hb⟩ := hrel
        have HO := Lib.hid hown
        have HB := Lib.hid hb
        clear hown hb
        by_cases hle : op ≤ 21
        · have hd5 : decide (op ≤ 21) = true := by simpa using hle
          go_wp2_with fail
          go_loopw [11] (fun o wr2 => ∃ i : Nat, i ≤ 121 ∧ o = .int .i64 i ∧ Owned wr2 (w.heap.size + 2) g 121 cap xs ∧ Below w.heap.size w wr2) (fun o _ => 121 - (intOf o).toNat)
          case atStart => exact ⟨0, by omega, rfl, HO.out, HB.out⟩
          case round =>
            clear HO HB
            obtain ⟨i, hi, rfl, hown, hb⟩ := hrel
            have HO := Lib.hid hown
            have HB := Lib.hid hb
            clear hown hb
            by_cases hilt : i < 121
            · have hd6 : decide ((i : Int) < 121) = true := by simp; omega
              go_wp2_with fail
              go_loopw [12] (fun o wr2 => ∃ k : Nat, k ≤ 124 ∧ o = .int .i64 k ∧ Owned wr2 (w.heap.size + 2) g 121 cap xs ∧ Below w.heap.size w wr2) (fun o _ => 124 - (intOf o).toNat)
              case atStart => exact ⟨0, by omega, rfl, HO.out, HB.out⟩
              case round =>
                clear HO HB
                obtain ⟨k, hk, rfl, hown, hb⟩ := hrel
                have HO := Lib.hid hown
                have HB := Lib.hid hb
                clear hown hb
                by_cases hklt : k < 121
                · have hd7 : decide ((k : Int) < 121) = true := by simp; omega
                  have hi0 : (0 : Int) ≤ (i : Int) := by omega
                  have hi1 : (i : Int) < 121 := by omega
                  have hk0 : (0 : Int) ≤ (k : Int) := by omega
                  have hk1 : (k : Int) < 121 := by omega
                  obtain ⟨x, hx, hcx⟩ := HO.out.at_ hilt
                  obtain ⟨y, hy, hcy⟩ := HO.out.at_ hklt
                  have c1 := Lib.hid (of_quiet op x y hx hy (by omega) (by omega))
                  have c2 := Lib.hid (ref_quiet op x y hx hy (by omega) (by omega))
                  have hne : (pV op x y != pV op x y) = false := by simp
                  go_wp2_with fail
                  go_quiet ((go_at_call 10; exact quietFirst c1.out _ _))
                  go_wp2_with fail
                  go_quiet ((first | (go_at_call 12; exact quietNext (num_quiet _) _ _ _) | (go_at_call 11; exact quietNext c2.out _ _ _)))
                  go_wp2
                  go_roundw
                  case rel => exact ⟨k + 1 + i % 3, by omega, by go_num, HO.out.drewN _, below_drewN HB.out _⟩
                  case measure => simp [intOf]; omega
                · have hd7 : decide ((k : Int) < 121) = false := by simp; omega
                  go_wp2
                  go_roundw
                  case rel => exact ⟨i + 1, by omega, by go_num, HO.out, HB.out⟩
                  case measure => simp [intOf]; omega
            · have hd6 : decide ((i : Int) < 121) = false := by simp; omega
              go_wp2
              go_roundw
              case rel => exact ⟨op + 1, by omega, by omega, rfl, HO.out, HB.out⟩
              case measure => simp [intOf]; omega
        · have hd5 : decide (op ≤ 21) = false := by simpa using hle
          go_wp2_with (go_at_call 19; refine (wakes_any _).mono ?_; rintro e w' ⟨rfl, rfl⟩)
          go_ret
          exact ⟨rfl, HB.out⟩

set_option maxRecDepth 100000 in
theorem pairEdges_lifted (os : Os) (started : os.Started) (H : Type) (enc : TypeId × Value → H) :
    ReturnsInHanded {} Try.checked os 5 .any (Rows.pairEdgesSpec.pre6 enc Try.prog Try.f5 Rows.pairEdgesRow.domain false) (Rows.pairEdgesSpec.post enc Try.prog Try.f5 false true false false) := by
  refine returnsInHanded_of_change_sized (C := Try.checked) Try.own started (by kernel_rfl) Try.func5
    (ChangeSpec.witness6 (enc := enc) (C := Try.checked) false ⟨#[], #[.agg #[.slice none 0 0, .slice none 0 0]], []⟩ 8 (by kernel_rfl) (by kernel_rfl) (by kernel_rfl) (by kernel_rfl)) ?_
  intro W base args ds gs before hval0 hW _ hsz0 _
  have hsz : (DataW.weightsEach Try.prog (Try.f5.params.toList ++ Rows.pairEdgesSpec.plain.varTypes Try.prog) (ds ++ gs)).all (· ≤ reachBytes) = true := hsz0
  clear hsz0
  have hval : ∀ (j : Nat) t v, Try.f5.params[j]? = some t → args[j]? = some v → Value.okWide Try.prog W .any base t v := hval0
  have hW' := hW
  obtain ⟨p, q, hA0, hV, rfl, _, _⟩ := hW
  have hA : DataW.TrodAll enc Try.prog W 0 (fun _ => true) true Try.f5.params.toList args.toList ds p := hA0
  rw [Try.params5] at hA hval hsz
  obtain ⟨v0, d0, rfl, rfl, h0⟩ := trodAll_one hA
  obtain ⟨rfl, rfl⟩ := trodVars_none hV
  clear hA0 hval0
  obtain ⟨A1, n1, c1, A2, n2, c2, rfl, s1, s2⟩ := ask_open (hval 0 25 v0 rfl rfl) h0 (DataW.weights_mem_each (ts := [25]) (ds := [d0]) (j := 0) rfl rfl) hsz
  have lt0 : ∀ x ∈ p, x.block < W.heap.size := by obtain ⟨m, hm⟩ := h0; exact DataW.trod_lt m _ _ _ hm
  refine (pairEdges_walk A1 A2 n1 c1 n2 c2 W s1 s2).mono fun e W' ⟨he, bel⟩ => ?_
  subst he
  exact ⟨_, rfl, _, _, _, [], _, [], hW', trodAll_mk1 (shut_bool Try.underlying4 _), trodAll_mk1 (Below.trod Try.laidOut (by kernel_rfl) (of_decide_eq_true (by kernel_rfl)) h0 bel lt0), rfl, bel.frame _, fun h => by cases h⟩

theorem PairEdges_holds : Rows.PairEdgesSaid :=
  OpenClaim.holds_of_wide 5 Try.f5 rfl rfl rfl rfl rfl rfl rfl ⟨rfl, rfl, rfl, rfl, rfl⟩ rfl rfl rfl rfl rfl (by kernel_rfl) Try.func5 (by kernel_rfl)
    (of_decide_eq_true (by kernel_rfl)) (by unfold Func.isWrapper; first | (rw [if_pos (by decide +kernel)]; kernel_rfl) | (rw [if_neg (by decide +kernel)]; exact ⟨rfl, rfl⟩))
    (fun os started H enc _ => pairEdges_lifted os started H enc)

end Go.Proofs.Ytlmbgpcmljgnkaa
