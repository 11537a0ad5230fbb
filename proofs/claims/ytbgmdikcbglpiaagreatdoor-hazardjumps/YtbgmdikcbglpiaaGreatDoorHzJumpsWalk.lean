/-
  HazardJumps: the walk: of code made here with a jump behind a jump the hazards are the page's, at each cycle. Conditions: the tables lie in the world; the argument reads as a script.
-/
import Derived.Test.YtbgmdikcbglpiaaGreatDoorHw
namespace Go.Proofs.YtbgmdikcbglpiaaGreatDoor
open Go.RowKit

theorem load3_run {w : World} {p : Addr} {v : Value} (hc : w.cell? p = some v) : (loadVar 3 p).run Tryz.prog w = .ok v w := by simp [hc, go_sem]
theorem load24_run {w : World} {p : Addr} {v : Value} (hc : w.cell? p = some v) : (loadVar 24 p).run Tryz.prog w = .ok v w := by simp [hc, go_sem]
theorem dstep_load_one {Q : Exit → Act → World → Prop} {o : Oper} {a : Act} {w : World} {K : Act → World → Prop} {T : TypeId} {x : Operand} {p : Addr} {v : Value} (ho : o.op = .load T x) (hx : a.eval x = .pointer (some p)) (hl : (loadVar T p).run Tryz.prog w = .ok v w) (h : K (a.put o.dst v) w) : o.wp Tryz.prog a w K Q := by
  unfold Oper.wp execOp
  simp only [ho, hx, Instr.loadAt, Instr.sureAddr, Sem.run_bind, Sem.run_pure, Result.andThen_ok, hl]
  exact h
/-- append of some bundles to a row of one's own. -/
theorem app24k {ops : Array Oper} {rest : List Oper} {o : Oper} {a : Act} {Q : Exit → Act → World → Prop} (hgd : o.guard = none) (s x : Operand) (ho : o.op = .call { callee := .builtin .append, args := #[s, x], argTypes := #[22, 22] })
    (W : World) (B n c : Nat) (va : Option Addr) (xs ys : List (List In5)) (m : Nat) (hm : ys.length = m) (hm0 : 0 < m) (hm1 : m ≤ 1000) (hs : a.eval s = .slice va n c) (hown : W.ownsRow B 58 24 (.slice va n c) n (flatB xs)) (hn : n ≤ 1000000) (g0 : Nat) (hx : a.eval x = .slice (some ⟨g0, 0, none⟩) m m) (cs : Array Value) (hg0 : W.heap[g0]? = some (.cells cs 58 (0, 0))) (hcs : cs.toList = flatB ys) (hB : B ≤ W.heap.size)
    (h : ∀ g cap w', w'.ownsRow B 58 24 (.slice (some ⟨g, 0, none⟩) (n + m) cap) (n + m) (flatB (xs ++ ys)) → W.grownBy w' (ob va) → wpList Tryz.prog ops Q rest (a.put o.dst (.slice (some ⟨g, 0, none⟩) (n + m) cap)) w') :
    wpList Tryz.prog ops Q (o :: rest) a W := by
  obtain ⟨i, z, hi, hz, h1, h2, h3⟩ := info58_bytes
  refine wpList_append_lies W hgd s x 22 ho B 58 i z 24 224 Tryz.underlying22 hi hz h1 h2 h3 (by decide) (.slice va n c) n (flatB xs) hs hown ⟨g0, 0, none⟩ m m (flatB ys) hx (by rw [flatB_len, hm]) (fun j u hu => World.news_of_block hg0 j u (by rw [hcs]; exact hu)) (fun u hu => by obtain ⟨b, _, hb⟩ := List.mem_flatMap.1 hu; exact flatB_one b u (by simpa [flatB] using hb)) hm0 (by unfold maxLen; omega) (by omega) hB _ rfl ?_
  intro g cap w' o1 o2 _ _
  refine h g cap w' ?_ (by rw [own_ob] at o2; exact o2)
  rw [flatB_app]
  exact o1
/-- The code: a jump that is taken, or not, bundles that do nothing, a jump. -/
def hjH (k : Nat) (m : Int) : List In5 := [⟨29 + k, 0, 1, 0, 6 + m⟩, zw, zw, zw]
def hjC (k : Nat) (m : Int) (n : Nat) : List (List In5) := hjH k m :: List.replicate n zB
def hjT (o : Nat) : List (List In5) := [[⟨o, 0, 0, 0, 0⟩, zw, zw, zw], zB, zB]
def hjD (k : Nat) (m : Int) (n o : Nat) : List (List In5) := hjC k m n ++ hjT o
theorem hj_ok : ∀ k : Fin 2, ∀ m : Fin 2, ∀ n : Fin 4, ∀ o : Fin 6, cOk (hjD k.1 (m.1 : Nat) n.1 (28 + o.1)) = true := by decide +kernel
theorem hj_vcc {k n o n8 : Nat} (hk : k < 2) (hn : n < 4) (ho : o < 6) : Vcc (hjD k ((n8 : Int) % 2) n (28 + o)) := by
  have h := hj_ok ⟨k, hk⟩ ⟨n8 % 2, by omega⟩ ⟨n, hn⟩ ⟨o, ho⟩
  exact cok_vcc h
theorem hjC_succ (k : Nat) (m : Int) (n : Nat) : hjC k m (n + 1) = hjC k m n ++ [zB] := by unfold hjC; rw [List.replicate_succ']; rfl
theorem hjC_len (k : Nat) (m : Int) (n : Nat) : (hjC k m n).length = n + 1 := by simp [hjC]
theorem hjD_len (k : Nat) (m : Int) (n o : Nat) : (hjD k m n o).length = n + 4 := by simp [hjD, hjC, hjT]
def hjR (k : Nat) (A8 : Option Addr) (n8 c8 sb B : Nat) : Nat → World → Value → Prop
  | 0, w, v => ∃ g : Nat, v = .slice (some ⟨g, 0, none⟩) 2 2 ∧ B ≤ g ∧ BK 3 w g #[.int .i64 29, .int .i64 30]
  | 1, _, v => v = .int .i64 (k : Nat)
  | 2, w, v => ∃ g : Nat, v = .pointer (some ⟨g, k, none⟩) ∧ BK 3 w g #[.int .i64 29, .int .i64 30]
  | 3, _, v => v = .int .i64 ((29 + k : Nat) : Int)
  | 4, _, v => v = .pointer (some ⟨sb, 12, none⟩)
  | 5, _, v => v = .slice A8 n8 c8
  | 6, _, v => v = .int .i64 (n8 : Nat)
  | 7, _, v => v = .int .i64 ((n8 : Int) % 2)
  | 8, _, v => v = .int .i64 (6 + (n8 : Int) % 2)
  | 9, _, v => v = .agg (In5.cells ⟨29 + k, 0, 1, 0, 6 + (n8 : Int) % 2⟩)
  | 10, _, v => v = .agg (bcs (bX [⟨29 + k, 0, 1, 0, 6 + (n8 : Int) % 2⟩, zw, zw, zw]))
  | 11, w, v => ∃ g : Nat, v = .slice (some ⟨g, 0, none⟩) 1 1 ∧ B ≤ g ∧ BK 58 w g (flatB [[⟨29 + k, 0, 1, 0, 6 + (n8 : Int) % 2⟩, zw, zw, zw]]).toArray
  | 12, w, v => ∃ g : Nat, v = .slice (some ⟨g, 0, none⟩) 1 1 ∧ B ≤ g ∧ BK 58 w g (flatB [[⟨29 + k, 0, 1, 0, 6 + (n8 : Int) % 2⟩, zw, zw, zw]]).toArray
  | _, _, _ => True
theorem hjR_st (k : Nat) (A8 : Option Addr) (n8 c8 sb B : Nat) : ∀ q w w' v, Below w.heap.size w w' → hjR k A8 n8 c8 sb B q w v → hjR k A8 n8 c8 sb B q w' v
  | 0, _, _, _, hb, h => by obtain ⟨g, h1, h2, h3⟩ := h; exact ⟨g, h1, h2, h3.below hb⟩
  | 1, _, _, _, hb, h => h
  | 2, _, _, _, hb, h => by obtain ⟨g, h1, h3⟩ := h; exact ⟨g, h1, h3.below hb⟩
  | 3, _, _, _, hb, h => h
  | 4, _, _, _, hb, h => h
  | 5, _, _, _, hb, h => h
  | 6, _, _, _, hb, h => h
  | 7, _, _, _, hb, h => h
  | 8, _, _, _, hb, h => h
  | 9, _, _, _, hb, h => h
  | 10, _, _, _, hb, h => h
  | 11, _, _, _, hb, h => by obtain ⟨g, h1, h2, h3⟩ := h; exact ⟨g, h1, h2, h3.below hb⟩
  | 12, _, _, _, hb, h => by obtain ⟨g, h1, h2, h3⟩ := h; exact ⟨g, h1, h2, h3.below hb⟩
  | _ + 13, _, _, _, _, _ => trivial
set_option maxRecDepth 40000 in
set_option maxHeartbeats 8000000 in
theorem hazardJumps_walk (v : Value) (w : World) (T : Tab w) (H : Asked v) : Calls Tryz.prog 8 #[v] w (BoolBelow true w) := by
  obtain ⟨A0, A1, A2, A3, A4, A5, A6, A8, n0, c0, n1, c1, n2, c2, n3, c3, n4, c4, n5, c5, n6, c6, n8, c8, tk, pc, stop, j, d, rfl, b8⟩ := H
  have TT := Lib.hid T
  have n80 : (0 : Int) ≤ (n8 : Int) := by omega
  have n81 : (n8 : Int) ≤ 1125899906842624 := by omega
  clear T b8
  have X0 := Lib.hid (show BK 29 (w.alloc (.cells #[.slice A0 n0 c0, .slice A1 n1 c1, .slice A2 n2 c2, .slice A3 n3 c3, .int .i64 tk, .slice A4 n4 c4, .int .i64 pc, .slice A5 n5 c5, .int .i64 stop, .slice A6 n6 c6, .int .i64 j, .int .i64 d, .slice A8 n8 c8] 29)) w.heap.size #[.slice A0 n0 c0, .slice A1 n1 c1, .slice A2 n2 c2, .slice A3 n3 c3, .int .i64 tk, .slice A4 n4 c4, .int .i64 pc, .slice A5 n5 c5, .int .i64 stop, .slice A6 n6 c6, .int .i64 j, .int .i64 d, .slice A8 n8 c8] from heap_alloc_new w _)
  have G0 := Lib.hid (below_new w (.cells #[.slice A0 n0 c0, .slice A1 n1 c1, .slice A2 n2 c2, .slice A3 n3 c3, .int .i64 tk, .slice A4 n4 c4, .int .i64 pc, .slice A5 n5 c5, .int .i64 stop, .slice A6 n6 c6, .int .i64 j, .int .i64 d, .slice A8 n8 c8] 29))
  go_enter Tryz.func8, Tryz.ntmps8
  go_wp2_with fail
  generalize hsb : w.heap.size = sb at *
  have SB := Lib.hid hsb
  clear hsb
  go_loopg [3] 6 (fun gk o wr2 => ∃ i : Nat, i ≤ 6 ∧ gk = 6 - i ∧ o = .int .i64 (28 + (i : Int)) ∧ Below sb w wr2 ∧ BK 29 wr2 sb #[.slice A0 n0 c0, .slice A1 n1 c1, .slice A2 n2 c2, .slice A3 n3 c3, .int .i64 tk, .slice A4 n4 c4, .int .i64 pc, .slice A5 n5 c5, .int .i64 stop, .slice A6 n6 c6, .int .i64 j, .int .i64 d, .slice A8 n8 c8])
  case atStart => exact ⟨0, by omega, rfl, rfl, G0.out, X0.out⟩
  case round =>
    clear X0 G0
    obtain ⟨i, hi, rfl, rfl, hb, hk⟩ := hrel
    have HB := Lib.hid hb
    have XX := Lib.hid hk
    clear hb hk
    by_cases hlt : i < 6
    · have hd : 28 + (i : Int) ≤ 33 := by omega
      go_wp2_with fail
      go_loopg [4] 4 (fun gk o wr2 => ∃ n : Nat, n ≤ 4 ∧ gk = 4 - n ∧ o = .int .i64 n ∧ Below sb w wr2 ∧ BK 29 wr2 sb #[.slice A0 n0 c0, .slice A1 n1 c1, .slice A2 n2 c2, .slice A3 n3 c3, .int .i64 tk, .slice A4 n4 c4, .int .i64 pc, .slice A5 n5 c5, .int .i64 stop, .slice A6 n6 c6, .int .i64 j, .int .i64 d, .slice A8 n8 c8])
      case atStart => exact ⟨0, by omega, rfl, rfl, HB.out, XX.out⟩
      case round =>
        clear HB XX
        obtain ⟨n, hn, rfl, rfl, hb, hk⟩ := hrel
        have HB := Lib.hid hb
        have XX := Lib.hid hk
        clear hb hk
        by_cases hln : n < 4
        · have hdn : decide ((n : Int) < 4) = true := by simp; omega
          go_wp2_with fail
          go_loopg [5] 2 (fun gk o wr2 => ∃ k : Nat, k ≤ 2 ∧ gk = 2 - k ∧ o = .int .i64 k ∧ Below sb w wr2 ∧ BK 29 wr2 sb #[.slice A0 n0 c0, .slice A1 n1 c1, .slice A2 n2 c2, .slice A3 n3 c3, .int .i64 tk, .slice A4 n4 c4, .int .i64 pc, .slice A5 n5 c5, .int .i64 stop, .slice A6 n6 c6, .int .i64 j, .int .i64 d, .slice A8 n8 c8])
          case atStart => exact ⟨0, by omega, rfl, rfl, HB.out, XX.out⟩
          case round =>
            clear HB XX
            obtain ⟨k, hk2, rfl, rfl, hb, hk⟩ := hrel
            have HB := Lib.hid hb
            have XX := Lib.hid hk
            have hwz := hk.lt
            clear hb hk
            by_cases hlk : k < 2
            · have hdk : decide ((k : Int) < 2) = true := by simp; omega
              have VC := Lib.hid (hj_vcc (n8 := n8) hlk hln hlt)
              generalize hwr : wr = w2 at *
              clear hwr
              go_upto_region 10 with (fail)
              refine wp_region_di (S := fun w' => Below w2.heap.size w2 w') (R := hjR k A8 n8 c8 sb w2.heap.size) (by kernel_rfl) (by kernel_rfl) (by kernel_rfl) (hjR_st _ _ _ _ _ _) (by exact below_drewN (Below.refl _ _) 1) ⟨?_, ?_, ?_, ?_, ?_, ?_, ?_, ?_, ?_, ?_, ?_, ?_, ?_, trivial⟩ ?_
              · show DStep _ _ _ _ _ _ _
                intro a w K Q hS hu hd hK
                exact dstep_value (v := .slice (some ⟨w.heap.size, 0, none⟩) 2 2) (w' := w.alloc (.cells #[.int .i64 29, .int .i64 30] 3)) (by kernel_rfl) (hK _ _ (hS.trans ((below_new w _).mono hS.size)) (below_new w _) ⟨_, rfl, hS.size, heap_alloc_new _ _⟩)
              · show DStep _ _ _ _ _ _ _
                intro a w K Q hS hu hd hK
                have hv := hu 5 (by kernel_rfl)
                exact dstep_value (v := a.tmps.getD 5 undef) (by kernel_rfl) (hK _ _ hS (Below.refl _ _) hv)
              · show DStep _ _ _ _ _ _ _
                intro a w K Q hS hu hd hK
                obtain ⟨g, hv, hg, hb⟩ : ∃ g : Nat, a.tmps.getD 21 undef = .slice (some ⟨g, 0, none⟩) 2 2 ∧ w2.heap.size ≤ g ∧ BK 3 w g #[.int .i64 29, .int .i64 30] := hd 0 21 (by kernel_rfl)
                have hw : a.tmps.getD 22 undef = .int .i64 (k : Nat) := hd 1 22 (by kernel_rfl)
                refine dstep_value (v := .pointer (some ⟨g, k, none⟩)) ?_ (hK _ _ hS (Below.refl _ _) ⟨g, rfl, hb⟩)
                simp only [execOp, Act.eval, hv, hw]
                obtain rfl | rfl : k = 0 ∨ k = 1 := by omega
                all_goals kernel_rfl
              · show DStep _ _ _ _ _ _ _
                intro a w K Q hS hu hd hK
                obtain ⟨g, hv, hb⟩ : ∃ g : Nat, a.tmps.getD 23 undef = .pointer (some ⟨g, k, none⟩) ∧ BK 3 w g #[.int .i64 29, .int .i64 30] := hd 2 23 (by kernel_rfl)
                have hc : w.cell? ⟨g, k, none⟩ = some (.int .i64 ((29 + k : Nat) : Int)) := by
                  rw [hb.cell]
                  obtain rfl | rfl : k = 0 ∨ k = 1 := by omega
                  all_goals rfl
                exact dstep_load_one (T := 3) rfl hv (load3_run hc) (hK _ _ hS (Below.refl _ _) rfl)
              · show DStep _ _ _ _ _ _ _
                intro a w K Q hS hu hd hK
                have hv := hu 1 (by kernel_rfl)
                refine dstep_value (v := .pointer (some ⟨sb, 12, none⟩)) ?_ (hK _ _ hS (Below.refl _ _) rfl)
                simp only [execOp, Act.eval]
                rw [hv]
                kernel_rfl
              · show DStep _ _ _ _ _ _ _
                intro a w K Q hS hu hd hK
                have hv : a.tmps.getD 25 undef = .pointer (some ⟨sb, 12, none⟩) := hd 4 25 (by kernel_rfl)
                exact dstep_load_one (T := 24) rfl hv (load24_run ((XX.out.belowB hS XX.out.lt).cell 12)) (hK _ _ hS (Below.refl _ _) rfl)
              · show DStep _ _ _ _ _ _ _
                intro a w K Q hS hu hd hK
                have hv : a.tmps.getD 26 undef = .slice A8 n8 c8 := hd 5 26 (by kernel_rfl)
                refine dstep_value (v := .int .i64 (n8 : Nat)) ?_ (hK _ _ hS (Below.refl _ _) rfl)
                simp [Act.eval, hv, go_sem]
              · show DStep _ _ _ _ _ _ _
                intro a w K Q hS hu hd hK
                have hv : a.tmps.getD 27 undef = .int .i64 (n8 : Nat) := hd 6 27 (by kernel_rfl)
                refine dstep_value (v := .int .i64 ((n8 : Int) % 2)) ?_ (hK _ _ hS (Below.refl _ _) rfl)
                have h1 : ((n8 : Int)).tmod 2 = (n8 : Int) % 2 := Int.tmod_eq_emod_of_nonneg n80
                simp [execOp, Act.eval, hv, eqGuard, h1, go_sem]
              · show DStep _ _ _ _ _ _ _
                intro a w K Q hS hu hd hK
                have hv : a.tmps.getD 28 undef = .int .i64 ((n8 : Int) % 2) := hd 7 28 (by kernel_rfl)
                refine dstep_value (v := .int .i64 (6 + (n8 : Int) % 2)) ?_ (hK _ _ hS (Below.refl _ _) rfl)
                simp only [execOp, Act.eval, hv]
                rcases (show (n8 : Int) % 2 = 0 ∨ (n8 : Int) % 2 = 1 by omega) with h | h
                all_goals
                  rw [h]
                  kernel_rfl
              · show DStep _ _ _ _ _ _ _
                intro a w K Q hS hu hd hK
                have hv : a.tmps.getD 24 undef = .int .i64 ((29 + k : Nat) : Int) := hd 3 24 (by kernel_rfl)
                have hw : a.tmps.getD 29 undef = .int .i64 (6 + (n8 : Int) % 2) := hd 8 29 (by kernel_rfl)
                refine dstep_value (v := .agg (In5.cells ⟨29 + k, 0, 1, 0, 6 + (n8 : Int) % 2⟩)) ?_ (hK _ _ hS (Below.refl _ _) rfl)
                simp only [execOp, Act.eval, List.map_toArray, List.map_cons, List.map_nil, hv, hw]
                kernel_rfl
              · show DStep _ _ _ _ _ _ _
                intro a w K Q hS hu hd hK
                have hv : a.tmps.getD 30 undef = .agg (In5.cells ⟨29 + k, 0, 1, 0, 6 + (n8 : Int) % 2⟩) := hd 9 30 (by kernel_rfl)
                refine dstep_value (v := .agg (bcs (bX [⟨29 + k, 0, 1, 0, 6 + (n8 : Int) % 2⟩, zw, zw, zw]))) ?_ (hK _ _ hS (Below.refl _ _) rfl)
                simp only [execOp, Act.eval, List.map_toArray, List.map_cons, List.map_nil, hv]
                kernel_rfl
              · show DStep _ _ _ _ _ _ _
                intro a w K Q hS hu hd hK
                have hv : a.tmps.getD 31 undef = .agg (bcs (bX [⟨29 + k, 0, 1, 0, 6 + (n8 : Int) % 2⟩, zw, zw, zw])) := hd 10 31 (by kernel_rfl)
                obtain ⟨ie, z, h1, h2, h3, h4⟩ := info58_parts
                refine wp_buildSlice 22 58 1 _ rfl (flatB [[⟨29 + k, 0, 1, 0, 6 + (n8 : Int) % 2⟩, zw, zw, zw]]).toArray ie z Tryz.underlying22 h1 h2 (by rw [h3]; decide) (by rw [h3]; decide) ?_ (hK _ _ (hS.trans ((below_new w _).mono hS.size)) (below_new w _) ⟨_, rfl, hS.size, heap_alloc_new _ _⟩)
                rw [h3, h4, Array.toList_map]
                show Instr.fill _ _ [(0, a.tmps.getD 31 undef)] = _
                rw [hv]
                kernel_rfl
              · show DStep _ _ _ _ _ _ _
                intro a w K Q hS hu hd hK
                exact dstep_value (v := a.tmps.getD 32 undef) (by kernel_rfl) (hK _ _ hS (Below.refl _ _) (hd 11 32 (by kernel_rfl)))
              intro a w3 D
              have D3 := Lib.hid D.s
              obtain ⟨vs, hvs, rfl⟩ := D.form
              obtain ⟨g, hv, hgl, hgb⟩ := hvs 12 _ 6 rfl rfl
              have Y0 := Lib.hid (own_of_bk (C := [hjH k ((n8 : Int) % 2)]) (B := w2.heap.size) rfl hgb rfl hgl (by show 1 ≤ 1000; decide))
              simp only [putAll, List.foldl_cons, List.foldl_nil, Option.getD_some, hv]
              clear hvs hv hgb hgl
              generalize vs 21 = u21, vs 22 = u22, vs 23 = u23, vs 24 = u24, vs 25 = u25, vs 26 = u26, vs 27 = u27, vs 28 = u28, vs 29 = u29, vs 30 = u30, vs 31 = u31, vs 32 = u32
              have XI := Lib.hid (XX.out.belowB D3.out hwz)
              have HI := Lib.hid (HB.out.trans (D3.out.mono (by have h1 := HB.out.size; have h2 := SB.out; omega)))
              have Z3 := Lib.hid D3.out.size
              have Z2 := Lib.hid (show sb < w2.heap.size from hwz)
              clear XX HB D3
              generalize w2.heap.size = bz at *
              go_wp2_with fail
              go_loopg [6, 7] n (fun gk l o wr2 => ∃ (jj : Nat) (va : Option Addr) (cc : Nat), jj ≤ n ∧ gk = n - jj ∧ l = .slice va (jj + 1) cc ∧ o = .int .i64 jj ∧ wr2.ownsRow bz 58 24 (.slice va (jj + 1) cc) (jj + 1) (flatB (hjC k ((n8 : Int) % 2) jj)) ∧ Below bz w3 wr2)
              case atStart => exact ⟨0, _, _, by omega, rfl, rfl, rfl, Y0.out, Below.refl _ _⟩
              case round =>
                clear Y0
                obtain ⟨jj, va, cc, hj, rfl, rfl, rfl, hown, hb⟩ := hrel
                have OWN := Lib.hid hown
                have DB := Lib.hid hb
                have hbs := hb.size
                have hbz : bz ≤ wr.heap.size := by have := Z3.out; omega
                clear hown hb
                by_cases hlj : jj < n
                · have hdj : decide ((jj : Int) < (n : Int)) = true := by simpa using hlj
                  go_wp2_with (first | ((with_reducible refine buildB (o := ⟨some 40, .buildSlice 22 1 _, _, _, _, none⟩) rfl 1 _ rfl (flatB [zB]).toArray (by decide) (by decide) ?kf ?_); (case kf => kernel_rfl); intro w8 hk8 hb8 hz8; have K8 := Lib.hid hk8; have B8 := Lib.hid hb8; clear hk8 hb8 hz8) | (at_builtin; refine app24 rfl _ _ rfl w8 bz (jj + 1) cc va (hjC k ((n8 : Int) % 2) jj) zB rfl (own_bel OWN.out B8.out) (by omega) wr.heap.size rfl _ K8.out rfl (by have := B8.out.size; omega) ?_; intro g9 cap9 w9 hown9 hg9; have O9 := Lib.hid hown9; have B9 := Lib.hid ((B8.out.mono hbz).grown hg9 (by have := B8.out.size; omega) (fun k hk => (OWN.out.lt k (by rw [own_ob]; exact hk)).1)); clear hown9 hg9))
                  go_roundg (n - (jj + 1))
                  case measure => omega
                  case rel => exact ⟨jj + 1, some ⟨g9, 0, none⟩, cap9, by omega, rfl, rfl, by go_num, by rw [hjC_succ]; exact O9.out, DB.out.trans B9.out⟩
                · have hdj : decide ((jj : Int) < (n : Int)) = false := by simp; omega
                  have hin : n = jj := by omega
                  subst hin
                  have XJ := Lib.hid (XI.out.belowB DB.out Z2.out)
                  have HJ := Lib.hid (HI.out.trans (DB.out.mono (by have := Z2.out; omega)))
                  go_wp2_with (first | ((with_reducible refine buildG (o := ⟨some 49, .buildSlice 22 3 _, _, _, _, none⟩) rfl 3 _ rfl (flatB (hjT (28 + i))).toArray (by decide) (by decide) (wr.heap.size + 1) ?kg ?kf ?_); (case kf => kernel_rfl); (case kg => simp); intro w6 hk6 hb6 hz6; have K6 := Lib.hid hk6; have B6 := Lib.hid ((below_new wr _).trans (hb6.mono (by simp))); clear hk6 hb6 hz6) | (at_builtin; (refine app24k rfl _ _ rfl w6 bz (n + 1) cc va (hjC k ((n8 : Int) % 2) n) (hjT (28 + i)) 3 rfl (by decide) (by decide) rfl (own_bel OWN.out B6.out) (by omega) (wr.heap.size + 1) rfl _ K6.out rfl (by have := B6.out.size; omega) ?_); intro g9 cap9 w9 hown9 hg9; have O9 := Lib.hid hown9; have B9 := Lib.hid ((B6.out.mono hbz).grown hg9 (by have := B6.out.size; omega) (fun k hk => (OWN.out.lt k (by rw [own_ob]; exact hk)).1)); clear hown9 hg9))
                  have H9 := Lib.hid (HJ.out.trans (B9.out.mono (by have := Z2.out; omega)))
                  have X9 := Lib.hid (XJ.out.belowB B9.out Z2.out)
                  refine (found_any _ (hjD k ((n8 : Int) % 2) n (28 + i)) _ (own_rdc O9.out (hjD_len _ _ _ _) (by omega)) VC.out (TT.out.below (by rw [SB.out]; exact H9.out))).mono ?_
                  rintro en w7 ⟨rfl, b7⟩
                  have M7 := Lib.hid b7
                  clear b7
                  go_wp2_with fail
                  go_roundg (2 - (k + 1))
                  case measure => omega
                  case rel => exact ⟨k + 1, by omega, rfl, by go_num, H9.out.trans (M7.out.mono (by have h1 := H9.out.size; have h2 := SB.out; omega)), X9.out.below M7.out⟩
            · have hdk : decide ((k : Int) < 2) = false := by simp; omega
              go_wp2_with fail
              go_roundg (4 - (n + 1))
              case measure => omega
              case rel => exact ⟨n + 1, by omega, rfl, by go_num, HB.out, XX.out⟩
        · have hdn : decide ((n : Int) < 4) = false := by simp; omega
          go_wp2_with fail
          go_roundg (6 - (i + 1))
          case measure => omega
          case rel => exact ⟨i + 1, by omega, rfl, by go_num, HB.out, XX.out⟩
    · have hd : decide (28 + (i : Int) ≤ 33) = false := by simp; omega
      have WKE := Lib.hid (wakes7_any wr (TT.out.below (by rw [SB.out]; exact HB.out)))
      go_wp2_with (go_at_call 28; refine WKE.out.mono ?_; rintro en w' ⟨rfl, bz⟩)
      go_ret
      exact ⟨rfl, by rw [SB.out]; exact HB.out.trans (bz.mono (by have h1 := HB.out.size; have h2 := SB.out; omega))⟩
end Go.Proofs.YtbgmdikcbglpiaaGreatDoor
