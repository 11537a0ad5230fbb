/-
  BitsWord: the walk: of instructions of the input the word is the page's, or the error is; of words of the input, and of right words with one bit turned, the instruction is. Conditions: the tables lie in the world; the slices of the input are nil or lie in old memory, within the reach of what is read.
-/
import Derived.Test.YtlhdmdhecamlfaaDoorWords
import Derived.Test.YtlhdmdhecamlfaaDoorBack
import Derived.Deep.LoopGhost
import Derived.Deep.DeepCutAuto
import Derived.Deep.CutBlock
namespace Go.Proofs.YtlhdmdhecamlfaaDoor
open Go.RowKit

theorem add_pos (x : Addr) (j : Nat) (h : j ≠ 0) : x.add j = ⟨x.block, x.off + j, none⟩ := by unfold Addr.add; simp [h]
theorem info_parts {P : Program} {e : TypeId} {z : Value} {s b : Nat} (h : (P.info? e).map (fun i => (i.zero, i.size, i.bytes)) = some (some z, s, b)) : ∃ i, P.info? e = some i ∧ i.zero = some z ∧ i.size = s ∧ i.bytes = b := by
  obtain ⟨i, hi, he⟩ := Option.map_eq_some_iff.1 h
  simp only [Prod.mk.injEq] at he
  exact ⟨i, hi, he.1, he.2.1, he.2.2⟩
theorem slice_le {w : World} {A : Option Addr} {n c : Nat} (h : SliceIn .u32 4 w A n c) : n * 4 ≤ 140737488351232 := by
  rcases h with ⟨_, rfl, _⟩ | ⟨_, _, _, _, _, _, _, h⟩
  · omega
  · exact h
def lit3 : List Int := [0, 1, 4294967295]
theorem lit3_ok : ∀ x ∈ lit3, 0 ≤ x ∧ x ≤ 4294967295 := by
  intro x hx
  simp [lit3] at hx
  omega
theorem lit3_own (W : World) (B : Nat) (hB : W.heap.size = B) : (W.alloc (.cells #[.int .u32 0, .int .u32 1, .int .u32 4294967295] 33)).ownsRow B 33 1 (.slice (some ⟨B, 0, none⟩) 3 3) 3 (lit3.map (Value.int .u32)) := by
  subst hB
  have h := World.ownsRow_lit (base := W.heap.size) (e := 33) (size := 1) W #[.int .u32 0, .int .u32 1, .int .u32 4294967295] 3 (by simp) (by unfold maxLen; omega) rfl
  simpa [lit3] using h
/-- No instruction, one with a name, one without. -/
theorem ins_ways (o d a b m : Int) (s : ByteArray) : Bad o d a b m s ∨ ∃ n : Nat, n < 34 ∧ o = n ∧ insB n d a b m s = true ∧ (0 < s.size ∨ s.size = 0) := by
  by_cases hv : 0 ≤ o ∧ o ≤ 33
  · cases hI : insB o.toNat d a b m s
    · exact .inl (.inr ⟨o.toNat, by omega, by omega, hI⟩)
    · exact .inr ⟨o.toNat, by omega, by omega, hI, by omega⟩
  · exact .inl (.inl (by omega))
theorem Ow.push {B m n g cap : Nat} {W0 wr w3 : World} {v' : Value} {xs : List Int} {x : Int} {ob : Obj} (hn : n + 1 ≤ m) (hown0 : wr.ownsRow B 33 1 (.slice (some ⟨g, 0, none⟩) n cap) n (xs.map (Value.int .u32))) (hx : ∀ x ∈ xs, 0 ≤ x ∧ x ≤ 4294967295) (hb : Below B W0 wr) (hB : B ≤ W0.heap.size)
    (hown : w3.ownsRow B 33 1 v' (n + 1) (xs.map (Value.int .u32) ++ [.int .u32 x])) (hg : (wr.alloc ob).grownBy w3 (Value.slice (some ⟨g, 0, none⟩) n cap).ownBlock) (h0 : 0 ≤ x) (h1 : x ≤ 4294967295) : Ws B W0 m w3 v' := by
  have hbl := app_below hown0 hg (Nat.le_trans hB hb.size)
  refine Ws.of_own (xs := xs ++ [x]) hn (by omega) (by simpa using hown) (fun y hy => ?_) (hb.trans hbl)
  rcases List.mem_append.1 hy with h | h
  · exact hx y h
  · simp at h; subst h; exact ⟨h0, h1⟩
set_option maxHeartbeats 40000000 in
set_option maxRecDepth 100000 in
theorem bitsWord_walk (A1 A2 A3 A4 A5 : Option Addr) (n1 c1 n2 c2 n3 c3 n4 c4 n5 c5 : Nat) (w : World) (H : Tab w) (s1 : InsIn w A1 n1) (s3 : SliceIn .u32 4 w A3 n3 c3) :
    Calls Tryd.prog 3 #[.agg #[.slice A1 n1 c1, .slice A2 n2 c2, .slice A3 n3 c3, .slice A4 n4 c4, .slice A5 n5 c5]] w (TruePost w) := by
  have T := Lib.hid H
  have big := H.big
  have S1 := Lib.hid s1
  have S3 := Lib.hid s3
  have L3 := Lib.hid (slice_le s3)
  clear H s1 s3
  obtain ⟨i0, hi, hz0, hz1, hz2⟩ := info_parts Tryd.info33
  have HI0 := Lib.hid hi
  have HZ0 := Lib.hid hz0
  have HZ1 := Lib.hid hz1
  have HZ2 := Lib.hid hz2
  clear hi hz0 hz1 hz2
  go_enter Tryd.func3, Tryd.ntmps3
  go_wp2_with (at_builtin; refine wpList_append_in _ rfl _ _ 26 rfl (w.heap.size + 1) 33 i0 (.int .u32 0) .u32 4 Tryd.underlying26 HI0.out HZ0.out HZ1.out HZ2.out rfl _ 3 (lit3.map (Value.int .u32)) rfl ?h1 A3 n3 c3 rfl ?h2 ?h3 ?h4 ?h5 ?_)
  case h1 => exact lit3_own _ _ (by simp)
  case h2 => exact (S3.out.alloc _).alloc _
  case h3 => have := L3.out; unfold maxLen; omega
  case h4 => have := L3.out; omega
  case h5 => simp
  intro v' wa zs hzs hown hg
  have z0 : (w.alloc (.cells #[.slice A1 n1 c1, .slice A2 n2 c2, .slice A3 n3 c3, .slice A4 n4 c4, .slice A5 n5 c5] 32)).heap.size = w.heap.size + 1 := by simp
  have hbel : Below (w.heap.size + 1) (w.alloc (.cells #[.slice A1 n1 c1, .slice A2 n2 c2, .slice A3 n3 c3, .slice A4 n4 c4, .slice A5 n5 c5] 32)) wa := ((Below.refl _ _).alloc (by simp) _).grown hg (by simp) (by intro k hk; simp [Value.ownBlock] at hk; omega)
  have Q0 := Lib.hid (show (w.alloc (.cells #[.slice A1 n1 c1, .slice A2 n2 c2, .slice A3 n3 c3, .slice A4 n4 c4, .slice A5 n5 c5] 32)).cell? ⟨w.heap.size, 0, none⟩ = some (.slice A1 n1 c1) by simp [go_sem])
  have Q1 := Lib.hid (show ∀ p : Addr, p.block < w.heap.size → (w.alloc (.cells #[.slice A1 n1 c1, .slice A2 n2 c2, .slice A3 n3 c3, .slice A4 n4 c4, .slice A5 n5 c5] 32)).cell? p = w.cell? p from fun p hp => World.cell?_alloc_lt w _ p hp)
  clear hg
  generalize hW0 : (w.alloc (.cells #[.slice A1 n1 c1, .slice A2 n2 c2, .slice A3 n3 c3, .slice A4 n4 c4, .slice A5 n5 c5] 32)) = W0 at z0 Q0 Q1 hbel
  have HW0 := Lib.hid hW0
  have Z0 := Lib.hid z0
  have BZ := Lib.hid (show w.heap.size + 1 ≤ W0.heap.size by omega)
  have HBA := Lib.hid hbel
  clear hW0 z0 hbel
  have T0 := Lib.hid (show Tab W0 from HW0.out ▸ T.out.alloc _)
  have hall : ∀ x ∈ lit3 ++ zs, 0 ≤ x ∧ x ≤ 4294967295 := by
    intro x hx
    rcases List.mem_append.1 hx with h | h
    · exact lit3_ok x h
    · exact u32_wf (hzs x h)
  have HALL := Lib.hid hall
  clear hall hzs
  rw [← List.map_append] at hown
  obtain ⟨g, cap, hv, hbase, hlt⟩ := hown.form (by omega)
  subst hv
  have HOW := Lib.hid hown
  obtain ⟨hcap, hcap2⟩ := own_cap hown
  clear hown hbase hlt
  go_upto_if 23 with fail
  go_cut [3] (fun s3 wx => Ws (w.heap.size + 1) W0 20 wx s3)
  case first =>
    by_cases h20 : 20 < 3 + n3
    · have TK := Lib.hid (own_take HOW.out (m := 20) (by omega))
      go_wp2_with fail
      go_meet
      case rel => exact ⟨_, 20, _, rfl, Nat.le_refl _, (lit3 ++ zs).take 20, by rw [List.map_take]; exact TK.out, fun x hx => HALL.out x (List.mem_of_mem_take hx), HBA.out⟩
    · go_wp2_with fail
      go_meet
      case rel => exact ⟨_, _, _, rfl, by omega, lit3 ++ zs, HOW.out, HALL.out, HBA.out⟩
  case rest =>
  clear HOW HBA HALL hcap hcap2
  have HC := Lib.hid hcut
  clear hcut
  go_wp2_with fail
  go_loopg [3, 4] 20 (fun gk l o wr2 => ∃ i : Nat, i ≤ 20 ∧ gk = 20 - i ∧ o = .int .i64 i ∧ Ws (w.heap.size + 1) W0 (20 + 32 * i) wr2 l)
  case atStart => exact ⟨0, by omega, rfl, rfl, HC.out⟩
  case round =>
    clear HC
    obtain ⟨i, hi, rfl, rfl, hws⟩ := hrel
    obtain ⟨g1, m1, cap1, rfl, hm1, hO⟩ := hws
    have HO := Lib.hid hO
    have HS := Lib.hid (hO.size BZ.out)
    have TR := Lib.hid (tab_below T0.out hO.bel (by have := T.out.big; omega))
    have q0 := (hO.bel.cell (p := ⟨w.heap.size, 0, none⟩) (by simp)).trans Q0.out
    clear hO
    by_cases hilt : i < n1 ∧ i < 20
    · obtain ⟨hilt, hi20⟩ := hilt
      have d4 : decide ((i : Int) < (n1 : Int)) = true := by simpa using hilt
      have d5 : decide ((i : Int) < 20) = true := by simp; omega
      have i0 : (0 : Int) ≤ (i : Int) := by omega
      have i1 : (i : Int) < (n1 : Int) := by omega
      obtain ⟨ad, rfl, hbl, hel⟩ := S1.out (by omega)
      obtain ⟨xo', d, a, b, m, s, po, pd, pa, pb, pm, psz, e0, e1, e2, e3, e4, e5⟩ := hel i hilt
      have hcell : ∀ (j : Nat) (u : Value), w.cell? (ad.add (i * 6 + j)) = some u → wr.cell? (ad.add (i * 6 + j)) = some u := fun j u hu => (HO.out.bel.cell (p := ad.add (i * 6 + j)) (by rw [block_add]; omega)).trans ((Q1.out _ (by rw [block_add]; exact hbl)).trans hu)
      have k0 := hcell 0 _ e0
      have k1 := hcell 1 _ e1
      have k2 := hcell 2 _ e2
      have k3 := hcell 3 _ e3
      have k4 := hcell 4 _ e4
      have k5 := hcell 5 _ e5
      rw [Nat.add_zero] at k0
      rw [← Go.Deep.add_add, add_pos _ _ (by decide)] at k1 k2 k3 k4 k5
      have PZ := Lib.hid psz
      clear hcell e0 e1 e2 e3 e4 e5 hel hbl psz po pd pa pb pm
      rcases ins_ways xo' d a b m s with hbad | ⟨n, h, rfl, hins, hsym | hsym⟩
      · have HBad := Lib.hid hbad
        clear hbad
        as_aux_lemma =>
        go_wp2_with fail
        refine (word_bad _ _ _ _ _ _ _ (TR.out.alloc _) PZ.out HBad.out).mono ?_
        rintro e w2 ⟨rfl, hb2⟩
        obtain ⟨q, hz2, hB2⟩ := box_cells hb2
        clear k0 k1 k2 k3 k4 k5
        have k0 : w2.cell? ⟨wr.heap.size, 0, none⟩ = some (.int .i64 xo') := q 0
        have k1 : w2.cell? ⟨wr.heap.size, 1, none⟩ = some (.int .i64 d) := q 1
        have k2 : w2.cell? ⟨wr.heap.size, 2, none⟩ = some (.int .i64 a) := q 2
        have k3 : w2.cell? ⟨wr.heap.size, 3, none⟩ = some (.int .i64 b) := q 3
        have k4 : w2.cell? ⟨wr.heap.size, 4, none⟩ = some (.int .i64 m) := q 4
        have k5 : w2.cell? ⟨wr.heap.size, 5, none⟩ = some (.string s) := q 5
        have X2 := Lib.hid (show XB w2 wr.heap.size xo' d a b m s from XB.below (heap_alloc_new _ _) hb2)
        have O2 := Lib.hid (HO.out.below BZ.out hB2)
        clear q hb2 hB2
        go_wp2_with fail
        refine (ins_bad _ _ _ _ _ _ _ PZ.out HBad.out).mono ?_
        rintro e w3 ⟨rfl, hb3⟩
        have O3 := Lib.hid (O2.out.below BZ.out hb3)
        have hX3 := X2.out.below hb3
        obtain ⟨p0, p1, p2, p3, p4, p5⟩ := hX3.cells
        have hg3 := hX3.lt
        clear hb3 hX3 k0 k1 k2 k3 k4 k5
        go_wp2_with (go_at_call 11; refine (num_any _ _).mono ?_; rintro e w' ⟨rfl, rfl⟩)
        go_roundg (20 - (i + 1))
        case measure => omega
        case rel => exact ⟨i + 1, by omega, rfl, by go_num, g1, m1, cap1, rfl, by omega, O3.out⟩
      · have HI := Lib.hid hins
        have hn1 := toList_ne hsym
        have hn2 := isEmpty_ne hsym
        have HSY := Lib.hid hsym
        clear hins hsym
        as_aux_lemma =>
        go_wp2_with fail
        refine (word_sym _ _ _ _ _ _ _ h (TR.out.alloc _) PZ.out HI.out HSY.out).mono ?_
        rintro e w2 ⟨rfl, hb2⟩
        obtain ⟨q, hz2, hB2⟩ := box_cells hb2
        clear k0 k1 k2 k3 k4 k5
        have k0 : w2.cell? ⟨wr.heap.size, 0, none⟩ = some (.int .i64 n) := q 0
        have k1 : w2.cell? ⟨wr.heap.size, 1, none⟩ = some (.int .i64 d) := q 1
        have k2 : w2.cell? ⟨wr.heap.size, 2, none⟩ = some (.int .i64 a) := q 2
        have k3 : w2.cell? ⟨wr.heap.size, 3, none⟩ = some (.int .i64 b) := q 3
        have k4 : w2.cell? ⟨wr.heap.size, 4, none⟩ = some (.int .i64 m) := q 4
        have k5 : w2.cell? ⟨wr.heap.size, 5, none⟩ = some (.string s) := q 5
        have X2 := Lib.hid (show XB w2 wr.heap.size n d a b m s from XB.below (heap_alloc_new _ _) hb2)
        have O2 := Lib.hid (HO.out.below BZ.out hB2)
        clear q hb2 hB2
        go_wp2_with fail
        refine (ins_good _ _ _ _ _ _ _ h PZ.out HI.out).mono ?_
        rintro e w3 ⟨rfl, hb3⟩
        have O3 := Lib.hid (O2.out.below BZ.out hb3)
        have hX3 := X2.out.below hb3
        obtain ⟨p0, p1, p2, p3, p4, p5⟩ := hX3.cells
        have hg3 := hX3.lt
        clear hb3 hX3 k0 k1 k2 k3 k4 k5
        go_wp2_with (go_at_call 11; refine (num_any _ _).mono ?_; rintro e w' ⟨rfl, rfl⟩)
        go_roundg (20 - (i + 1))
        case measure => omega
        case rel => exact ⟨i + 1, by omega, rfl, by go_num, g1, m1, cap1, rfl, by omega, O3.out⟩
      · have HI := Lib.hid hins
        have FI := Lib.hid (ins_fit hins hsym)
        have he := empty_of hsym
        subst he
        have UD := Lib.hid (wd_u32 FI.out h)
        clear hins hsym
        as_aux_lemma =>
        go_wp2_with fail
        refine (word_good _ _ _ _ _ _ _ h (TR.out.alloc _) HI.out rfl).mono ?_
        rintro e w2 ⟨rfl, hb2⟩
        obtain ⟨q, hz2, hB2⟩ := box_cells hb2
        clear k0 k1 k2 k3 k4 k5
        have k0 : w2.cell? ⟨wr.heap.size, 0, none⟩ = some (.int .i64 n) := q 0
        have k1 : w2.cell? ⟨wr.heap.size, 1, none⟩ = some (.int .i64 d) := q 1
        have k2 : w2.cell? ⟨wr.heap.size, 2, none⟩ = some (.int .i64 a) := q 2
        have k3 : w2.cell? ⟨wr.heap.size, 3, none⟩ = some (.int .i64 b) := q 3
        have k4 : w2.cell? ⟨wr.heap.size, 4, none⟩ = some (.int .i64 m) := q 4
        have k5 : w2.cell? ⟨wr.heap.size, 5, none⟩ = some (.string ⟨#[]⟩) := q 5
        have X2 := Lib.hid (show XB w2 wr.heap.size n d a b m ⟨#[]⟩ from XB.below (heap_alloc_new _ _) hb2)
        have O2 := Lib.hid (HO.out.below BZ.out hB2)
        clear q hb2 hB2
        go_wp2_with fail
        refine (ins_good _ _ _ _ _ _ _ h (by decide) HI.out).mono ?_
        rintro e w3 ⟨rfl, hb3⟩
        have O3 := Lib.hid (O2.out.below BZ.out hb3)
        have hX3 := X2.out.below hb3
        clear k0 k1 k2 k3 k4 k5
        obtain ⟨k0, k1, k2, k3, k4, k5⟩ := hX3.cells
        have hg3 := hX3.lt
        clear hb3 hX3
        go_wp2_with fail
        refine (rword_any _ _ _ _ _ _ _ h FI.out).mono ?_
        rintro e w4 ⟨rfl, hb4⟩
        have O4 := Lib.hid (O3.out.below BZ.out hb4)
        clear hb4 k0 k1 k2 k3 k4 k5
        go_wp2_with fail
        go_loopg [3, 10] 32 (fun gk l o wr2 => ∃ k : Nat, k ≤ 32 ∧ gk = 32 - k ∧ o = .int .i64 k ∧ Ws (w.heap.size + 1) W0 (20 + 32 * i + k) wr2 l)
        case atStart => exact ⟨0, by omega, rfl, rfl, g1, m1, cap1, rfl, by omega, O4.out⟩
        case round =>
          obtain ⟨k, hk, rfl, rfl, hws⟩ := hrel
          obtain ⟨g5, m5, cap5, rfl, hm5, hO⟩ := hws
          obtain ⟨xs, hown, hxs, hbx⟩ := hO
          have OWN := Lib.hid hown
          have HXS := Lib.hid hxs
          have HBX := Lib.hid hbx
          clear hown hxs hbx
          by_cases hk32 : k < 32
          · have hd : decide ((k : Int) < 32) = true := by simp; omega
            go_wp2_with (at_builtin; refine app_one 26 33 4 (.int .u32 0) Tryd.info33 rfl (by decide) Tryd.underlying26 (by rfl) _ _ (by rfl) _ (w.heap.size + 1) m5 _ _ _ (by rfl) OWN.out (by omega) (by rfl) _ (by rfl) (by simp) ?hb ?_)
            case hb => exact Nat.le_trans BZ.out HBX.out.size
            intro v9 w9 hown9 hg9
            have W9 := Lib.hid (Ow.push (m := 20 + 32 * i + (k + 1)) (by omega) OWN.out HXS.out HBX.out BZ.out hown9 hg9 (xor_bd _ _).1 (xor_bd _ _).2)
            clear hown9 hg9
            go_wp2_with fail
            go_roundg (32 - (k + 1))
            case measure => omega
            case rel => exact ⟨k + 1, by omega, rfl, by go_num, W9.out⟩
          · have hd : decide ((k : Int) < 32) = false := by simp; omega
            have sw : (wd n d a b m != wd n d a b m) = false := by simp
            go_wp2_with (go_at_call 11; refine (num_any _ _).mono ?_; rintro e w' ⟨rfl, rfl⟩)
            go_roundg (20 - (i + 1))
            case measure => omega
            case rel => exact ⟨i + 1, by omega, rfl, by go_num, g5, m5, cap5, rfl, by omega, xs, OWN.out, HXS.out, HBX.out⟩
    · by_cases hc : i < n1
      · have d4 : decide ((i : Int) < (n1 : Int)) = true := by simpa using hc
        have d5 : decide ((i : Int) < 20) = false := by simp; omega
        clear hilt
        go_wp2_with fail
        go_loopg [11] m1 (fun gk o wr2 => ∃ j : Nat, j ≤ m1 ∧ gk = m1 - j ∧ o = .int .i64 j ∧ Ow (w.heap.size + 1) W0 wr2 g1 m1 cap1)
        case atStart => exact ⟨0, by omega, rfl, rfl, HO.out⟩
        case round =>
          clear HO HS TR q0
          obtain ⟨j, hj, rfl, rfl, hO⟩ := hrel
          have HO := Lib.hid hO
          have TR := Lib.hid (tab_below T0.out hO.bel (by have := T.out.big; omega))
          by_cases hjlt : j < m1
          · have dj : decide ((j : Int) < (m1 : Int)) = true := by simpa using hjlt
            have j0 : (0 : Int) ≤ (j : Int) := by omega
            have j1 : (j : Int) < (m1 : Int) := by omega
            obtain ⟨x, x0, x1, kx⟩ := hO.at_ hjlt
            clear hO
            cases hok : okW x
            · as_aux_lemma =>
              have OK := Lib.hid hok
              clear hok
              go_wp2_with fail
              refine (bins_no _ _ TR.out x0 x1 OK.out).mono ?_
              rintro e w1 ⟨rfl, hb1⟩
              have kx1 := (hb1.cell (World.block_lt_of_cell? wr _ kx)).trans kx
              have gx1 := World.block_lt_of_cell? w1 _ kx1
              have O1 := Lib.hid (HO.out.below BZ.out hb1)
              clear hb1 kx
              go_wp2_with fail
              refine (unw_no _ _ x0 x1 OK.out).mono ?_
              rintro e w2 ⟨rfl, hb2⟩
              obtain ⟨q, hz2, hB2⟩ := box_cells hb2
              have y0 : w2.cell? ⟨w1.heap.size, 0, none⟩ = some (.int .i64 0) := q 0
              have y1 : w2.cell? ⟨w1.heap.size, 1, none⟩ = some (.int .i64 0) := q 1
              have y2 : w2.cell? ⟨w1.heap.size, 2, none⟩ = some (.int .i64 0) := q 2
              have y3 : w2.cell? ⟨w1.heap.size, 3, none⟩ = some (.int .i64 0) := q 3
              have y4 : w2.cell? ⟨w1.heap.size, 4, none⟩ = some (.int .i64 0) := q 4
              have y5 : w2.cell? ⟨w1.heap.size, 5, none⟩ = some (.string ⟨#[]⟩) := q 5
              have O2 := Lib.hid (O1.out.below BZ.out hB2)
              clear q hb2 hB2 kx1 gx1
              go_wp2_with (go_at_call 11; refine (num_any _ _).mono ?_; rintro e w' ⟨rfl, rfl⟩)
              go_roundg (m1 - (j + 1))
              case measure => omega
              case rel => exact ⟨j + 1, by omega, rfl, by go_num, O2.out.alloc BZ.out _⟩
            · as_aux_lemma =>
              have OK := Lib.hid hok
              clear hok
              go_wp2_with fail
              refine (bins_yes _ _ TR.out x0 x1 OK.out).mono ?_
              rintro e w1 ⟨rfl, hb1⟩
              have kx1 := (hb1.cell (World.block_lt_of_cell? wr _ kx)).trans kx
              have gx1 := World.block_lt_of_cell? w1 _ kx1
              have O1 := Lib.hid (HO.out.below BZ.out hb1)
              clear hb1 kx
              go_wp2_with fail
              refine (unw_yes _ _ x0 x1 OK.out).mono ?_
              rintro e w2 ⟨rfl, hb2⟩
              obtain ⟨q, hz2, hB2⟩ := box_cells hb2
              have y0 : w2.cell? ⟨w1.heap.size, 0, none⟩ = some (.int .i64 (xo x)) := q 0
              have y1 : w2.cell? ⟨w1.heap.size, 1, none⟩ = some (.int .i64 (xd x)) := q 1
              have y2 : w2.cell? ⟨w1.heap.size, 2, none⟩ = some (.int .i64 (xa x)) := q 2
              have y3 : w2.cell? ⟨w1.heap.size, 3, none⟩ = some (.int .i64 (xb x)) := q 3
              have y4 : w2.cell? ⟨w1.heap.size, 4, none⟩ = some (.int .i64 (xm x)) := q 4
              have y5 : w2.cell? ⟨w1.heap.size, 5, none⟩ = some (.string ⟨#[]⟩) := q 5
              have O2 := Lib.hid (O1.out.below BZ.out hB2)
              clear q hb2 hB2 kx1 gx1
              have s0 : (xo x != xo x) = false := by simp
              have s1 : (xd x != xd x) = false := by simp
              have s2 : (xa x != xa x) = false := by simp
              have s3 : (xb x != xb x) = false := by simp
              have s4 : (xm x != xm x) = false := by simp
              go_wp2_with (go_at_call 11; refine (num_any _ _).mono ?_; rintro e w' ⟨rfl, rfl⟩)
              go_roundg (m1 - (j + 1))
              case measure => omega
              case rel => exact ⟨j + 1, by omega, rfl, by go_num, O2.out.alloc BZ.out _⟩
          · have dj : decide ((j : Int) < (m1 : Int)) = false := by simp; omega
            clear hO
            go_wp2_with (go_at_call 14; refine (wakes_any _ TR.out).mono ?_; rintro e w9 ⟨rfl, hb9⟩)
            go_ret
            have hb0 : Below w.heap.size w W0 := HW0.out ▸ below_new w _
            exact ⟨rfl, (hb0.trans (HO.out.bel.mono (by omega))).trans (hb9.mono (Nat.le_trans (by omega) (HO.out.size BZ.out)))⟩
      · have d4 : decide ((i : Int) < (n1 : Int)) = false := by simpa using hc
        clear hilt
        go_wp2_with fail
        go_loopg [11] m1 (fun gk o wr2 => ∃ j : Nat, j ≤ m1 ∧ gk = m1 - j ∧ o = .int .i64 j ∧ Ow (w.heap.size + 1) W0 wr2 g1 m1 cap1)
        case atStart => exact ⟨0, by omega, rfl, rfl, HO.out⟩
        case round =>
          clear HO HS TR q0
          obtain ⟨j, hj, rfl, rfl, hO⟩ := hrel
          have HO := Lib.hid hO
          have TR := Lib.hid (tab_below T0.out hO.bel (by have := T.out.big; omega))
          by_cases hjlt : j < m1
          · have dj : decide ((j : Int) < (m1 : Int)) = true := by simpa using hjlt
            have j0 : (0 : Int) ≤ (j : Int) := by omega
            have j1 : (j : Int) < (m1 : Int) := by omega
            obtain ⟨x, x0, x1, kx⟩ := hO.at_ hjlt
            clear hO
            cases hok : okW x
            · as_aux_lemma =>
              have OK := Lib.hid hok
              clear hok
              go_wp2_with fail
              refine (bins_no _ _ TR.out x0 x1 OK.out).mono ?_
              rintro e w1 ⟨rfl, hb1⟩
              have kx1 := (hb1.cell (World.block_lt_of_cell? wr _ kx)).trans kx
              have gx1 := World.block_lt_of_cell? w1 _ kx1
              have O1 := Lib.hid (HO.out.below BZ.out hb1)
              clear hb1 kx
              go_wp2_with fail
              refine (unw_no _ _ x0 x1 OK.out).mono ?_
              rintro e w2 ⟨rfl, hb2⟩
              obtain ⟨q, hz2, hB2⟩ := box_cells hb2
              have y0 : w2.cell? ⟨w1.heap.size, 0, none⟩ = some (.int .i64 0) := q 0
              have y1 : w2.cell? ⟨w1.heap.size, 1, none⟩ = some (.int .i64 0) := q 1
              have y2 : w2.cell? ⟨w1.heap.size, 2, none⟩ = some (.int .i64 0) := q 2
              have y3 : w2.cell? ⟨w1.heap.size, 3, none⟩ = some (.int .i64 0) := q 3
              have y4 : w2.cell? ⟨w1.heap.size, 4, none⟩ = some (.int .i64 0) := q 4
              have y5 : w2.cell? ⟨w1.heap.size, 5, none⟩ = some (.string ⟨#[]⟩) := q 5
              have O2 := Lib.hid (O1.out.below BZ.out hB2)
              clear q hb2 hB2 kx1 gx1
              go_wp2_with (go_at_call 11; refine (num_any _ _).mono ?_; rintro e w' ⟨rfl, rfl⟩)
              go_roundg (m1 - (j + 1))
              case measure => omega
              case rel => exact ⟨j + 1, by omega, rfl, by go_num, O2.out.alloc BZ.out _⟩
            · as_aux_lemma =>
              have OK := Lib.hid hok
              clear hok
              go_wp2_with fail
              refine (bins_yes _ _ TR.out x0 x1 OK.out).mono ?_
              rintro e w1 ⟨rfl, hb1⟩
              have kx1 := (hb1.cell (World.block_lt_of_cell? wr _ kx)).trans kx
              have gx1 := World.block_lt_of_cell? w1 _ kx1
              have O1 := Lib.hid (HO.out.below BZ.out hb1)
              clear hb1 kx
              go_wp2_with fail
              refine (unw_yes _ _ x0 x1 OK.out).mono ?_
              rintro e w2 ⟨rfl, hb2⟩
              obtain ⟨q, hz2, hB2⟩ := box_cells hb2
              have y0 : w2.cell? ⟨w1.heap.size, 0, none⟩ = some (.int .i64 (xo x)) := q 0
              have y1 : w2.cell? ⟨w1.heap.size, 1, none⟩ = some (.int .i64 (xd x)) := q 1
              have y2 : w2.cell? ⟨w1.heap.size, 2, none⟩ = some (.int .i64 (xa x)) := q 2
              have y3 : w2.cell? ⟨w1.heap.size, 3, none⟩ = some (.int .i64 (xb x)) := q 3
              have y4 : w2.cell? ⟨w1.heap.size, 4, none⟩ = some (.int .i64 (xm x)) := q 4
              have y5 : w2.cell? ⟨w1.heap.size, 5, none⟩ = some (.string ⟨#[]⟩) := q 5
              have O2 := Lib.hid (O1.out.below BZ.out hB2)
              clear q hb2 hB2 kx1 gx1
              have s0 : (xo x != xo x) = false := by simp
              have s1 : (xd x != xd x) = false := by simp
              have s2 : (xa x != xa x) = false := by simp
              have s3 : (xb x != xb x) = false := by simp
              have s4 : (xm x != xm x) = false := by simp
              go_wp2_with (go_at_call 11; refine (num_any _ _).mono ?_; rintro e w' ⟨rfl, rfl⟩)
              go_roundg (m1 - (j + 1))
              case measure => omega
              case rel => exact ⟨j + 1, by omega, rfl, by go_num, O2.out.alloc BZ.out _⟩
          · have dj : decide ((j : Int) < (m1 : Int)) = false := by simp; omega
            clear hO
            go_wp2_with (go_at_call 14; refine (wakes_any _ TR.out).mono ?_; rintro e w9 ⟨rfl, hb9⟩)
            go_ret
            have hb0 : Below w.heap.size w W0 := HW0.out ▸ below_new w _
            exact ⟨rfl, (hb0.trans (HO.out.bel.mono (by omega))).trans (hb9.mono (Nat.le_trans (by omega) (HO.out.size BZ.out)))⟩
end Go.Proofs.YtlhdmdhecamlfaaDoor
