/-
  PipePorts: the walk: code that takes inputs, also more than there are, stores, loads and puts out, does in the program and on the page the same. Conditions: the tables lie in the world; the argument reads as a script.
-/
import Derived.Test.YtnkadjejdppanaaGreatDoorAt
import Derived.Test.YtnkadjejdppanaaGreatDoorShell
import Derived.Deep.LoopGhost
namespace Go.Proofs.YtnkadjejdppanaaGreatDoor
open Go.RowKit

theorem Tryz.info52z : ((Tryz.prog.info? 52).bind (·.zero)).map (·.cells) = some ZB := by kernel_rfl
theorem info52_parts : ∃ ie z, Tryz.prog.info? 52 = some ie ∧ ie.zero = some z ∧ ie.size = 24 ∧ z.cells = ZB := by
  have h1 := Tryz.info52z
  have h2 := Tryz.size52
  cases hi : Tryz.prog.info? 52 with
  | none => rw [hi] at h2; cases h2
  | some ie =>
    rw [hi] at h1 h2
    simp only [Option.map_some, Option.some.injEq, Option.bind_some] at h1 h2
    cases hz : ie.zero with
    | none => rw [hz] at h1; cases h1
    | some z => rw [hz] at h1; simp only [Option.map_some, Option.some.injEq] at h1; exact ⟨ie, z, rfl, hz, h2, h1⟩
def zB : List In5 := [zw, zw, zw, zw]
theorem addro (g o j : Nat) : (⟨g, o, none⟩ : Addr).add j = ⟨g, o + j, none⟩ := by unfold Addr.add; split <;> simp_all
/-- Code in a row, from a place on. -/
theorem rdc_from {w : World} {g n c o : Nat} {cs : Array Value} {C : List (List In5)} (hb : w.heap[g]? = some (.cells cs 52 (0, 0))) (hn : C.length = n) (pre : List Value) (h : cs.toList = pre ++ flatB C) (ho : pre.length = o) : RdC w (.slice (some ⟨g, o, none⟩) n c) C := by
  refine ⟨_, c, by rw [hn], fun i hi => ⟨_, rfl, lt_of_heap hb, fun j u hu => ?_⟩⟩
  have hj : j < 24 := (Array.getElem?_eq_some_iff.1 hu).1
  rw [addro, addro, cell_of_row w g _ cs _ (0, 0) hb, ← Array.getElem?_toList, h, ← ho, List.getElem?_append_right (by omega), show pre.length + i * 24 + j - pre.length = i * 24 + j by omega, flatB_at C i j hi hj]
  exact hu
def cOk (C : List (List In5)) : Bool := (decide (C.length ≤ 1024) && C.all fun b => decide (b.length = 4) && b.all viB) && cdB (C.map bX)
theorem cok_vcc {C : List (List In5)} (h : cOk C = true) : Vcc C := by
  unfold cOk at h
  rw [Bool.and_eq_true] at h
  exact vcc_of h.1 h.2
/-- The instructions, each in a bundle of its own. -/
def poL (e : Int) : List In5 := [⟨26, 1, 0, 0, 0⟩, ⟨26, 2, 0, 0, 0⟩, ⟨25, 0, 3, 1, 1 + e⟩, ⟨24, 4, 3, 0, 1⟩, ⟨27, 0, 1, 0, 0⟩, ⟨27, 0, 2, 0, 0⟩, ⟨27, 0, 4, 0, 0⟩, ⟨26, 3, 0, 0, 0⟩, ⟨27, 0, 4, 0, 0⟩, ⟨33, 0, 0, 0, 0⟩]
def poC (e : Int) : List (List In5) := (poL e).map atB
theorem po_ok : ∀ e : Fin 3, cOk (poC e.1) = true := by decide +kernel
theorem po_vcc {e : Int} (h0 : 0 ≤ e) (h1 : e < 3) : Vcc (poC e) := by
  have h := po_ok ⟨e.toNat, by omega⟩
  simp only [show ((e.toNat : Nat) : Int) = e by omega] at h
  exact cok_vcc h
theorem poC_take (e : Int) (i : Nat) (hi : i < 10) : (poC e).take (i + 1) = (poC e).take i ++ [atB ((poL e).getD i zw)] := by
  have hl : i < (poC e).length := hi
  rw [List.take_succ_eq_append_getElem hl]
  congr 1
  have hl2 : i < (poL e).length := hi
  simp [poC, List.getD_eq_getElem?_getD, List.getElem?_eq_getElem hl2]
theorem Tryz.info52b : (Tryz.prog.info? 52).map (fun i => ((i.zero.map fun z => z.cells.size), i.size, i.bytes)) = some (some 24, 24, 224) := by kernel_rfl
theorem info52_bytes : ∃ i z, Tryz.prog.info? 52 = some i ∧ i.zero = some z ∧ i.size = 24 ∧ i.bytes = 224 ∧ z.cells.size = 24 := by
  obtain ⟨i, hi, he⟩ := Option.map_eq_some_iff.1 Tryz.info52b
  simp only [Prod.mk.injEq] at he
  obtain ⟨z, hz, hc⟩ := Option.map_eq_some_iff.1 he.1
  exact ⟨i, z, hi, hz, he.2.1, he.2.2, hc⟩
theorem flatB_one (b : List In5) : ∀ u ∈ flatB [b], u.oneCell' = true := by
  intro u hu
  have h1 := bcs_one (bX b)
  rw [Array.all_eq_true_iff_forall_mem] at h1
  exact h1 u (by simpa [flatB] using hu)
theorem flatB_app (C D : List (List In5)) : flatB (C ++ D) = flatB C ++ flatB D := by unfold flatB; rw [List.flatMap_append]
/-- append of one bundle to a row of one's own. -/
theorem app24 {ops : Array Oper} {rest : List Oper} {o : Oper} {a : Act} {Q : Exit → Act → World → Prop} (hgd : o.guard = none) (s x : Operand) (ho : o.op = .call { callee := .builtin .append, args := #[s, x], argTypes := #[22, 22] })
    (W : World) (B n c : Nat) (va : Option Addr) (xs : List (List In5)) (b : List In5) (hs : a.eval s = .slice va n c) (hown : W.ownsRow B 52 24 (.slice va n c) n (flatB xs)) (hn : n ≤ 1000000) (g0 : Nat) (hx : a.eval x = .slice (some ⟨g0, 0, none⟩) 1 1) (cs : Array Value) (hg0 : W.heap[g0]? = some (.cells cs 52 (0, 0))) (hcs : cs.toList = flatB [b]) (hB : B ≤ W.heap.size)
    (h : ∀ g cap w', w'.ownsRow B 52 24 (.slice (some ⟨g, 0, none⟩) (n + 1) cap) (n + 1) (flatB (xs ++ [b])) → W.grownBy w' (ob va) → wpList Tryz.prog ops Q rest (a.put o.dst (.slice (some ⟨g, 0, none⟩) (n + 1) cap)) w') :
    wpList Tryz.prog ops Q (o :: rest) a W := by
  obtain ⟨i, z, hi, hz, h1, h2, h3⟩ := info52_bytes
  refine wpList_append_lies W hgd s x 22 ho B 52 i z 24 224 Tryz.underlying22 hi hz h1 h2 h3 (by decide) (.slice va n c) n (flatB xs) hs hown ⟨g0, 0, none⟩ 1 1 (flatB [b]) hx rfl (fun j u hu => World.news_of_block hg0 j u (by rw [hcs]; exact hu)) (flatB_one b) (by decide) (by unfold maxLen; omega) (by omega) hB _ rfl ?_
  intro g cap w' o1 o2 _ _
  refine h g cap w' ?_ (by rw [own_ob] at o2; exact o2)
  rw [flatB_app]
  exact o1
theorem own_rdc {w : World} {B n c : Nat} {va : Option Addr} {C : List (List In5)} (h : w.ownsRow B 52 24 (.slice va n c) n (flatB C)) (hn : C.length = n) (h0 : 0 < n) : RdC w (.slice va n c) C := by
  rcases h.2 with ⟨hv, hz⟩ | ⟨g, cap, cur, hv, hb, hg, _⟩
  · exact absurd hz (by omega)
  · injection hv with h1 h2 h3
    subst h1
    exact rdc_cells hn (lt_of_heap hg) fun j u hu => by
      have := h.cells rfl j u hu
      rwa [addr0] at this
theorem own_bel {w w' : World} {B e z n : Nat} {v : Value} {xs : List Value} (h : w.ownsRow B e z v n xs) (hb : Below w.heap.size w w') : w'.ownsRow B e z v n xs := h.kept (grown_below hb) (by cases v.ownBlock; exact .inl rfl; exact .inr (by simp))
theorem rd_row (w : World) (cs : Array Value) (t : TypeId) (xs : List Int) (c : Nat) (h : cs.toList = xs.map (Value.int .u32)) : Rd .u32 (w.alloc (.cells cs t)) (.slice (some ⟨w.heap.size, 0, none⟩) xs.length c) xs := by
  refine ⟨_, c, rfl, fun _ => ⟨_, rfl, by simp, fun j u hu => ?_⟩⟩
  rw [addr0, cell_of_row _ w.heap.size j cs _ (0, 0) (heap_alloc_new w _), ← Array.getElem?_toList, h]
  exact hu
/-- The instructions' row. -/
def poA (e : Int) : Array Value := #[.int .i64 26, .int .i64 1, .int .i64 0, .int .i64 0, .int .i64 0, .string ⟨#[]⟩, .int .i64 26, .int .i64 2, .int .i64 0, .int .i64 0, .int .i64 0, .string ⟨#[]⟩, .int .i64 25, .int .i64 0, .int .i64 3, .int .i64 1, .int .i64 (1 + e), .string ⟨#[]⟩, .int .i64 24, .int .i64 4, .int .i64 3, .int .i64 0, .int .i64 1, .string ⟨#[]⟩, .int .i64 27, .int .i64 0, .int .i64 1, .int .i64 0, .int .i64 0, .string ⟨#[]⟩, .int .i64 27, .int .i64 0, .int .i64 2, .int .i64 0, .int .i64 0, .string ⟨#[]⟩, .int .i64 27, .int .i64 0, .int .i64 4, .int .i64 0, .int .i64 0, .string ⟨#[]⟩, .int .i64 26, .int .i64 3, .int .i64 0, .int .i64 0, .int .i64 0, .string ⟨#[]⟩, .int .i64 27, .int .i64 0, .int .i64 4, .int .i64 0, .int .i64 0, .string ⟨#[]⟩, .int .i64 33, .int .i64 0, .int .i64 0, .int .i64 0, .int .i64 0, .string ⟨#[]⟩]
set_option maxRecDepth 40000 in
set_option maxHeartbeats 8000000 in
theorem pipePorts_walk (v : Value) (w : World) (T : Tab w) (H : Asked v) : Calls Tryz.prog 7 #[v] w (BoolBelow true w) := by
  obtain ⟨A0, A1, A2, A3, A4, A5, A6, A8, n0, c0, n1, c1, n2, c2, n3, c3, n4, c4, n5, c5, n6, c6, n8, c8, tk, pc, stop, j, d, rfl, b8⟩ := H
  have TT := Lib.hid T
  have n80 : (0 : Int) ≤ (n8 : Int) := by omega
  have n81 : (n8 : Int) ≤ 1125899906842624 := by omega
  have e0 : (0 : Int) ≤ (n8 : Int) % 3 := by omega
  have e1 : (n8 : Int) % 3 < 3 := by omega
  have VV := Lib.hid (po_vcc e0 e1)
  obtain ⟨ie, z, h1, h2, h3, h4⟩ := info52_parts
  have H1 := Lib.hid h1
  have H2 := Lib.hid h2
  have H3 := Lib.hid h3
  have H4 := Lib.hid h4
  clear T b8 h1 h2 h3 h4
  have X0 := Lib.hid (show BK 29 ((w.alloc (.cells #[.slice A0 n0 c0, .slice A1 n1 c1, .slice A2 n2 c2, .slice A3 n3 c3, .int .i64 tk, .slice A4 n4 c4, .int .i64 pc, .slice A5 n5 c5, .int .i64 stop, .slice A6 n6 c6, .int .i64 j, .int .i64 d, .slice A8 n8 c8] 29)).alloc (.cells (poA ((n8 : Int) % 3)) 49)) w.heap.size #[.slice A0 n0 c0, .slice A1 n1 c1, .slice A2 n2 c2, .slice A3 n3 c3, .int .i64 tk, .slice A4 n4 c4, .int .i64 pc, .slice A5 n5 c5, .int .i64 stop, .slice A6 n6 c6, .int .i64 j, .int .i64 d, .slice A8 n8 c8] from BK.alloc (heap_alloc_new w _) _)
  have L0 := Lib.hid (show BK 49 ((w.alloc (.cells #[.slice A0 n0 c0, .slice A1 n1 c1, .slice A2 n2 c2, .slice A3 n3 c3, .int .i64 tk, .slice A4 n4 c4, .int .i64 pc, .slice A5 n5 c5, .int .i64 stop, .slice A6 n6 c6, .int .i64 j, .int .i64 d, .slice A8 n8 c8] 29)).alloc (.cells (poA ((n8 : Int) % 3)) 49)) (w.heap.size + 1) (poA ((n8 : Int) % 3)) from BK.new (by simp))
  have G0 := Lib.hid (below_two w (.cells #[.slice A0 n0 c0, .slice A1 n1 c1, .slice A2 n2 c2, .slice A3 n3 c3, .int .i64 tk, .slice A4 n4 c4, .int .i64 pc, .slice A5 n5 c5, .int .i64 stop, .slice A6 n6 c6, .int .i64 j, .int .i64 d, .slice A8 n8 c8] 29) (.cells (poA ((n8 : Int) % 3)) 49))
  have Z0 := Lib.hid (show ((w.alloc (.cells #[.slice A0 n0 c0, .slice A1 n1 c1, .slice A2 n2 c2, .slice A3 n3 c3, .int .i64 tk, .slice A4 n4 c4, .int .i64 pc, .slice A5 n5 c5, .int .i64 stop, .slice A6 n6 c6, .int .i64 j, .int .i64 d, .slice A8 n8 c8] 29)).alloc (.cells (poA ((n8 : Int) % 3)) 49)).heap.size = w.heap.size + 2 by simp)
  unfold poA at X0 L0 G0 Z0
  go_enter Tryz.func7, Tryz.ntmps7
  go_wp2_with fail
  generalize ((w.alloc (.cells #[.slice A0 n0 c0, .slice A1 n1 c1, .slice A2 n2 c2, .slice A3 n3 c3, .int .i64 tk, .slice A4 n4 c4, .int .i64 pc, .slice A5 n5 c5, .int .i64 stop, .slice A6 n6 c6, .int .i64 j, .int .i64 d, .slice A8 n8 c8] 29)).alloc (.cells #[.int .i64 26, .int .i64 1, .int .i64 0, .int .i64 0, .int .i64 0, .string ⟨#[]⟩, .int .i64 26, .int .i64 2, .int .i64 0, .int .i64 0, .int .i64 0, .string ⟨#[]⟩, .int .i64 25, .int .i64 0, .int .i64 3, .int .i64 1, .int .i64 (1 + (n8 : Int) % 3), .string ⟨#[]⟩, .int .i64 24, .int .i64 4, .int .i64 3, .int .i64 0, .int .i64 1, .string ⟨#[]⟩, .int .i64 27, .int .i64 0, .int .i64 1, .int .i64 0, .int .i64 0, .string ⟨#[]⟩, .int .i64 27, .int .i64 0, .int .i64 2, .int .i64 0, .int .i64 0, .string ⟨#[]⟩, .int .i64 27, .int .i64 0, .int .i64 4, .int .i64 0, .int .i64 0, .string ⟨#[]⟩, .int .i64 26, .int .i64 3, .int .i64 0, .int .i64 0, .int .i64 0, .string ⟨#[]⟩, .int .i64 27, .int .i64 0, .int .i64 4, .int .i64 0, .int .i64 0, .string ⟨#[]⟩, .int .i64 33, .int .i64 0, .int .i64 0, .int .i64 0, .int .i64 0, .string ⟨#[]⟩] 49)) = w1 at *
  generalize (n8 : Int) % 3 = e at *
  go_loopg [4, 5] 10 (fun gk l o wr2 => ∃ (i : Nat) (va : Option Addr) (cc : Nat), i ≤ 10 ∧ gk = 10 - i ∧ l = .slice va i cc ∧ o = .int .i64 i ∧ wr2.ownsRow (w.heap.size + 2) 52 24 (.slice va i cc) i (flatB ((poC e).take i)) ∧ Below w.heap.size w wr2 ∧ w.heap.size + 2 ≤ wr2.heap.size ∧ BK 29 wr2 w.heap.size #[.slice A0 n0 c0, .slice A1 n1 c1, .slice A2 n2 c2, .slice A3 n3 c3, .int .i64 tk, .slice A4 n4 c4, .int .i64 pc, .slice A5 n5 c5, .int .i64 stop, .slice A6 n6 c6, .int .i64 j, .int .i64 d, .slice A8 n8 c8] ∧ BK 49 wr2 (w.heap.size + 1) #[.int .i64 26, .int .i64 1, .int .i64 0, .int .i64 0, .int .i64 0, .string ⟨#[]⟩, .int .i64 26, .int .i64 2, .int .i64 0, .int .i64 0, .int .i64 0, .string ⟨#[]⟩, .int .i64 25, .int .i64 0, .int .i64 3, .int .i64 1, .int .i64 (1 + e), .string ⟨#[]⟩, .int .i64 24, .int .i64 4, .int .i64 3, .int .i64 0, .int .i64 1, .string ⟨#[]⟩, .int .i64 27, .int .i64 0, .int .i64 1, .int .i64 0, .int .i64 0, .string ⟨#[]⟩, .int .i64 27, .int .i64 0, .int .i64 2, .int .i64 0, .int .i64 0, .string ⟨#[]⟩, .int .i64 27, .int .i64 0, .int .i64 4, .int .i64 0, .int .i64 0, .string ⟨#[]⟩, .int .i64 26, .int .i64 3, .int .i64 0, .int .i64 0, .int .i64 0, .string ⟨#[]⟩, .int .i64 27, .int .i64 0, .int .i64 4, .int .i64 0, .int .i64 0, .string ⟨#[]⟩, .int .i64 33, .int .i64 0, .int .i64 0, .int .i64 0, .int .i64 0, .string ⟨#[]⟩])
  case atStart => exact ⟨0, none, 0, by omega, rfl, rfl, rfl, World.ownsRow_nil _ _ _ _, G0.out, by rw [Z0.out]; omega, X0.out, L0.out⟩
  case round =>
    obtain ⟨i, va, cc, hi, rfl, rfl, rfl, hown, hb, hz, hk, hl⟩ := hrel
    have HB := Lib.hid hb
    have XX := Lib.hid hk
    have LL := Lib.hid hl
    have OWN := Lib.hid hown
    clear hb hk hl hown
    by_cases hlt : i < 10
    · obtain rfl | rfl | rfl | rfl | rfl | rfl | rfl | rfl | rfl | rfl : i = 0 ∨ i = 1 ∨ i = 2 ∨ i = 3 ∨ i = 4 ∨ i = 5 ∨ i = 6 ∨ i = 7 ∨ i = 8 ∨ i = 9 := by omega
      all_goals clear hlt
      · clear hi
        have k0 : wr.cell? ⟨w.heap.size + 1, 0, none⟩ = some (.int .i64 26) := LL.out.cell 0
        have k1 : wr.cell? ⟨w.heap.size + 1, 1, none⟩ = some (.int .i64 1) := LL.out.cell 1
        have k2 : wr.cell? ⟨w.heap.size + 1, 2, none⟩ = some (.int .i64 0) := LL.out.cell 2
        have k3 : wr.cell? ⟨w.heap.size + 1, 3, none⟩ = some (.int .i64 0) := LL.out.cell 3
        have k4 : wr.cell? ⟨w.heap.size + 1, 4, none⟩ = some (.int .i64 0) := LL.out.cell 4
        have k5 : wr.cell? ⟨w.heap.size + 1, 5, none⟩ = some (.string ⟨#[]⟩) := LL.out.cell 5
        go_wp2_with fail
        refine (at_any ⟨26, 1, 0, 0, 0⟩ _ (show (26 : Nat) < 34 by decide)).mono ?_
        rintro en w4 ⟨rfl, b4⟩
        have O4 := Lib.hid (own_bel OWN.out b4)
        have B4 := Lib.hid (HB.out.trans (b4.mono HB.out.size))
        have X4 := Lib.hid (XX.out.below b4)
        have L4 := Lib.hid (LL.out.below b4)
        have z4 : w.heap.size + 2 ≤ w4.heap.size := by have := b4.size; omega
        clear b4 k0 k1 k2 k3 k4 k5
        go_wp2_with (first | ((with_reducible refine wpList_buildSlice (o := ⟨some 34, .buildSlice 22 1 _, _, _, _, none⟩) rfl 22 52 1 _ rfl (flatB [atB ⟨26, 1, 0, 0, 0⟩]).toArray ie z Tryz.underlying22 H1.out H2.out ?k1 ?k2 ?k3 ?_); (case k1 => rw [H3.out]; decide); (case k2 => rw [H3.out]; decide); (case k3 => rw [H3.out, H4.out]; kernel_rfl)) | (at_builtin; refine app24 rfl _ _ rfl (w4.alloc (.cells (flatB [atB ⟨26, 1, 0, 0, 0⟩]).toArray 52)) (w.heap.size + 2) 0 cc va ((poC e).take 0) (atB ⟨26, 1, 0, 0, 0⟩) rfl (own_bel O4.out (below_new _ _)) (by omega) w4.heap.size rfl _ (heap_alloc_new w4 _) rfl (by simp; omega) ?_; intro g9 cap9 w9 hown9 hg9; have O9 := Lib.hid (show w9.ownsRow (w.heap.size + 2) 52 24 (.slice (some ⟨g9, 0, none⟩) 1 cap9) 1 (flatB ((poC e).take 1)) from hown9); have B9 := Lib.hid (((Below.refl (w.heap.size + 2) w4).alloc z4 _).grown hg9 (by simp; omega) (fun k hk => (O4.out.lt k (by rw [own_ob]; exact hk)).1)); clear hown9 hg9))
        go_roundg (10 - (0 + 1))
        case measure => omega
        case rel => exact ⟨0 + 1, some ⟨g9, 0, none⟩, cap9, by omega, rfl, rfl, by go_num, O9.out, B4.out.trans (B9.out.mono (by omega)), by have := B9.out.size; omega, X4.out.belowB B9.out (by omega), L4.out.belowB B9.out (by omega)⟩
      · clear hi
        have k0 : wr.cell? ⟨w.heap.size + 1, 6, none⟩ = some (.int .i64 26) := LL.out.cell 6
        have k1 : wr.cell? ⟨w.heap.size + 1, 7, none⟩ = some (.int .i64 2) := LL.out.cell 7
        have k2 : wr.cell? ⟨w.heap.size + 1, 8, none⟩ = some (.int .i64 0) := LL.out.cell 8
        have k3 : wr.cell? ⟨w.heap.size + 1, 9, none⟩ = some (.int .i64 0) := LL.out.cell 9
        have k4 : wr.cell? ⟨w.heap.size + 1, 10, none⟩ = some (.int .i64 0) := LL.out.cell 10
        have k5 : wr.cell? ⟨w.heap.size + 1, 11, none⟩ = some (.string ⟨#[]⟩) := LL.out.cell 11
        go_wp2_with fail
        refine (at_any ⟨26, 2, 0, 0, 0⟩ _ (show (26 : Nat) < 34 by decide)).mono ?_
        rintro en w4 ⟨rfl, b4⟩
        have O4 := Lib.hid (own_bel OWN.out b4)
        have B4 := Lib.hid (HB.out.trans (b4.mono HB.out.size))
        have X4 := Lib.hid (XX.out.below b4)
        have L4 := Lib.hid (LL.out.below b4)
        have z4 : w.heap.size + 2 ≤ w4.heap.size := by have := b4.size; omega
        clear b4 k0 k1 k2 k3 k4 k5
        go_wp2_with (first | ((with_reducible refine wpList_buildSlice (o := ⟨some 34, .buildSlice 22 1 _, _, _, _, none⟩) rfl 22 52 1 _ rfl (flatB [atB ⟨26, 2, 0, 0, 0⟩]).toArray ie z Tryz.underlying22 H1.out H2.out ?k1 ?k2 ?k3 ?_); (case k1 => rw [H3.out]; decide); (case k2 => rw [H3.out]; decide); (case k3 => rw [H3.out, H4.out]; kernel_rfl)) | (at_builtin; refine app24 rfl _ _ rfl (w4.alloc (.cells (flatB [atB ⟨26, 2, 0, 0, 0⟩]).toArray 52)) (w.heap.size + 2) 1 cc va ((poC e).take 1) (atB ⟨26, 2, 0, 0, 0⟩) rfl (own_bel O4.out (below_new _ _)) (by omega) w4.heap.size rfl _ (heap_alloc_new w4 _) rfl (by simp; omega) ?_; intro g9 cap9 w9 hown9 hg9; have O9 := Lib.hid (show w9.ownsRow (w.heap.size + 2) 52 24 (.slice (some ⟨g9, 0, none⟩) 2 cap9) 2 (flatB ((poC e).take 2)) from hown9); have B9 := Lib.hid (((Below.refl (w.heap.size + 2) w4).alloc z4 _).grown hg9 (by simp; omega) (fun k hk => (O4.out.lt k (by rw [own_ob]; exact hk)).1)); clear hown9 hg9))
        go_roundg (10 - (1 + 1))
        case measure => omega
        case rel => exact ⟨1 + 1, some ⟨g9, 0, none⟩, cap9, by omega, rfl, rfl, by go_num, O9.out, B4.out.trans (B9.out.mono (by omega)), by have := B9.out.size; omega, X4.out.belowB B9.out (by omega), L4.out.belowB B9.out (by omega)⟩
      · clear hi
        have k0 : wr.cell? ⟨w.heap.size + 1, 12, none⟩ = some (.int .i64 25) := LL.out.cell 12
        have k1 : wr.cell? ⟨w.heap.size + 1, 13, none⟩ = some (.int .i64 0) := LL.out.cell 13
        have k2 : wr.cell? ⟨w.heap.size + 1, 14, none⟩ = some (.int .i64 3) := LL.out.cell 14
        have k3 : wr.cell? ⟨w.heap.size + 1, 15, none⟩ = some (.int .i64 1) := LL.out.cell 15
        have k4 : wr.cell? ⟨w.heap.size + 1, 16, none⟩ = some (.int .i64 (1 + e)) := LL.out.cell 16
        have k5 : wr.cell? ⟨w.heap.size + 1, 17, none⟩ = some (.string ⟨#[]⟩) := LL.out.cell 17
        go_wp2_with fail
        refine (at_any ⟨25, 0, 3, 1, 1 + e⟩ _ (show (25 : Nat) < 34 by decide)).mono ?_
        rintro en w4 ⟨rfl, b4⟩
        have O4 := Lib.hid (own_bel OWN.out b4)
        have B4 := Lib.hid (HB.out.trans (b4.mono HB.out.size))
        have X4 := Lib.hid (XX.out.below b4)
        have L4 := Lib.hid (LL.out.below b4)
        have z4 : w.heap.size + 2 ≤ w4.heap.size := by have := b4.size; omega
        clear b4 k0 k1 k2 k3 k4 k5
        go_wp2_with (first | ((with_reducible refine wpList_buildSlice (o := ⟨some 34, .buildSlice 22 1 _, _, _, _, none⟩) rfl 22 52 1 _ rfl (flatB [atB ⟨25, 0, 3, 1, 1 + e⟩]).toArray ie z Tryz.underlying22 H1.out H2.out ?k1 ?k2 ?k3 ?_); (case k1 => rw [H3.out]; decide); (case k2 => rw [H3.out]; decide); (case k3 => rw [H3.out, H4.out]; kernel_rfl)) | (at_builtin; refine app24 rfl _ _ rfl (w4.alloc (.cells (flatB [atB ⟨25, 0, 3, 1, 1 + e⟩]).toArray 52)) (w.heap.size + 2) 2 cc va ((poC e).take 2) (atB ⟨25, 0, 3, 1, 1 + e⟩) rfl (own_bel O4.out (below_new _ _)) (by omega) w4.heap.size rfl _ (heap_alloc_new w4 _) rfl (by simp; omega) ?_; intro g9 cap9 w9 hown9 hg9; have O9 := Lib.hid (show w9.ownsRow (w.heap.size + 2) 52 24 (.slice (some ⟨g9, 0, none⟩) 3 cap9) 3 (flatB ((poC e).take 3)) from hown9); have B9 := Lib.hid (((Below.refl (w.heap.size + 2) w4).alloc z4 _).grown hg9 (by simp; omega) (fun k hk => (O4.out.lt k (by rw [own_ob]; exact hk)).1)); clear hown9 hg9))
        go_roundg (10 - (2 + 1))
        case measure => omega
        case rel => exact ⟨2 + 1, some ⟨g9, 0, none⟩, cap9, by omega, rfl, rfl, by go_num, O9.out, B4.out.trans (B9.out.mono (by omega)), by have := B9.out.size; omega, X4.out.belowB B9.out (by omega), L4.out.belowB B9.out (by omega)⟩
      · clear hi
        have k0 : wr.cell? ⟨w.heap.size + 1, 18, none⟩ = some (.int .i64 24) := LL.out.cell 18
        have k1 : wr.cell? ⟨w.heap.size + 1, 19, none⟩ = some (.int .i64 4) := LL.out.cell 19
        have k2 : wr.cell? ⟨w.heap.size + 1, 20, none⟩ = some (.int .i64 3) := LL.out.cell 20
        have k3 : wr.cell? ⟨w.heap.size + 1, 21, none⟩ = some (.int .i64 0) := LL.out.cell 21
        have k4 : wr.cell? ⟨w.heap.size + 1, 22, none⟩ = some (.int .i64 1) := LL.out.cell 22
        have k5 : wr.cell? ⟨w.heap.size + 1, 23, none⟩ = some (.string ⟨#[]⟩) := LL.out.cell 23
        go_wp2_with fail
        refine (at_any ⟨24, 4, 3, 0, 1⟩ _ (show (24 : Nat) < 34 by decide)).mono ?_
        rintro en w4 ⟨rfl, b4⟩
        have O4 := Lib.hid (own_bel OWN.out b4)
        have B4 := Lib.hid (HB.out.trans (b4.mono HB.out.size))
        have X4 := Lib.hid (XX.out.below b4)
        have L4 := Lib.hid (LL.out.below b4)
        have z4 : w.heap.size + 2 ≤ w4.heap.size := by have := b4.size; omega
        clear b4 k0 k1 k2 k3 k4 k5
        go_wp2_with (first | ((with_reducible refine wpList_buildSlice (o := ⟨some 34, .buildSlice 22 1 _, _, _, _, none⟩) rfl 22 52 1 _ rfl (flatB [atB ⟨24, 4, 3, 0, 1⟩]).toArray ie z Tryz.underlying22 H1.out H2.out ?k1 ?k2 ?k3 ?_); (case k1 => rw [H3.out]; decide); (case k2 => rw [H3.out]; decide); (case k3 => rw [H3.out, H4.out]; kernel_rfl)) | (at_builtin; refine app24 rfl _ _ rfl (w4.alloc (.cells (flatB [atB ⟨24, 4, 3, 0, 1⟩]).toArray 52)) (w.heap.size + 2) 3 cc va ((poC e).take 3) (atB ⟨24, 4, 3, 0, 1⟩) rfl (own_bel O4.out (below_new _ _)) (by omega) w4.heap.size rfl _ (heap_alloc_new w4 _) rfl (by simp; omega) ?_; intro g9 cap9 w9 hown9 hg9; have O9 := Lib.hid (show w9.ownsRow (w.heap.size + 2) 52 24 (.slice (some ⟨g9, 0, none⟩) 4 cap9) 4 (flatB ((poC e).take 4)) from hown9); have B9 := Lib.hid (((Below.refl (w.heap.size + 2) w4).alloc z4 _).grown hg9 (by simp; omega) (fun k hk => (O4.out.lt k (by rw [own_ob]; exact hk)).1)); clear hown9 hg9))
        go_roundg (10 - (3 + 1))
        case measure => omega
        case rel => exact ⟨3 + 1, some ⟨g9, 0, none⟩, cap9, by omega, rfl, rfl, by go_num, O9.out, B4.out.trans (B9.out.mono (by omega)), by have := B9.out.size; omega, X4.out.belowB B9.out (by omega), L4.out.belowB B9.out (by omega)⟩
      · clear hi
        have k0 : wr.cell? ⟨w.heap.size + 1, 24, none⟩ = some (.int .i64 27) := LL.out.cell 24
        have k1 : wr.cell? ⟨w.heap.size + 1, 25, none⟩ = some (.int .i64 0) := LL.out.cell 25
        have k2 : wr.cell? ⟨w.heap.size + 1, 26, none⟩ = some (.int .i64 1) := LL.out.cell 26
        have k3 : wr.cell? ⟨w.heap.size + 1, 27, none⟩ = some (.int .i64 0) := LL.out.cell 27
        have k4 : wr.cell? ⟨w.heap.size + 1, 28, none⟩ = some (.int .i64 0) := LL.out.cell 28
        have k5 : wr.cell? ⟨w.heap.size + 1, 29, none⟩ = some (.string ⟨#[]⟩) := LL.out.cell 29
        go_wp2_with fail
        refine (at_any ⟨27, 0, 1, 0, 0⟩ _ (show (27 : Nat) < 34 by decide)).mono ?_
        rintro en w4 ⟨rfl, b4⟩
        have O4 := Lib.hid (own_bel OWN.out b4)
        have B4 := Lib.hid (HB.out.trans (b4.mono HB.out.size))
        have X4 := Lib.hid (XX.out.below b4)
        have L4 := Lib.hid (LL.out.below b4)
        have z4 : w.heap.size + 2 ≤ w4.heap.size := by have := b4.size; omega
        clear b4 k0 k1 k2 k3 k4 k5
        go_wp2_with (first | ((with_reducible refine wpList_buildSlice (o := ⟨some 34, .buildSlice 22 1 _, _, _, _, none⟩) rfl 22 52 1 _ rfl (flatB [atB ⟨27, 0, 1, 0, 0⟩]).toArray ie z Tryz.underlying22 H1.out H2.out ?k1 ?k2 ?k3 ?_); (case k1 => rw [H3.out]; decide); (case k2 => rw [H3.out]; decide); (case k3 => rw [H3.out, H4.out]; kernel_rfl)) | (at_builtin; refine app24 rfl _ _ rfl (w4.alloc (.cells (flatB [atB ⟨27, 0, 1, 0, 0⟩]).toArray 52)) (w.heap.size + 2) 4 cc va ((poC e).take 4) (atB ⟨27, 0, 1, 0, 0⟩) rfl (own_bel O4.out (below_new _ _)) (by omega) w4.heap.size rfl _ (heap_alloc_new w4 _) rfl (by simp; omega) ?_; intro g9 cap9 w9 hown9 hg9; have O9 := Lib.hid (show w9.ownsRow (w.heap.size + 2) 52 24 (.slice (some ⟨g9, 0, none⟩) 5 cap9) 5 (flatB ((poC e).take 5)) from hown9); have B9 := Lib.hid (((Below.refl (w.heap.size + 2) w4).alloc z4 _).grown hg9 (by simp; omega) (fun k hk => (O4.out.lt k (by rw [own_ob]; exact hk)).1)); clear hown9 hg9))
        go_roundg (10 - (4 + 1))
        case measure => omega
        case rel => exact ⟨4 + 1, some ⟨g9, 0, none⟩, cap9, by omega, rfl, rfl, by go_num, O9.out, B4.out.trans (B9.out.mono (by omega)), by have := B9.out.size; omega, X4.out.belowB B9.out (by omega), L4.out.belowB B9.out (by omega)⟩
      · clear hi
        have k0 : wr.cell? ⟨w.heap.size + 1, 30, none⟩ = some (.int .i64 27) := LL.out.cell 30
        have k1 : wr.cell? ⟨w.heap.size + 1, 31, none⟩ = some (.int .i64 0) := LL.out.cell 31
        have k2 : wr.cell? ⟨w.heap.size + 1, 32, none⟩ = some (.int .i64 2) := LL.out.cell 32
        have k3 : wr.cell? ⟨w.heap.size + 1, 33, none⟩ = some (.int .i64 0) := LL.out.cell 33
        have k4 : wr.cell? ⟨w.heap.size + 1, 34, none⟩ = some (.int .i64 0) := LL.out.cell 34
        have k5 : wr.cell? ⟨w.heap.size + 1, 35, none⟩ = some (.string ⟨#[]⟩) := LL.out.cell 35
        go_wp2_with fail
        refine (at_any ⟨27, 0, 2, 0, 0⟩ _ (show (27 : Nat) < 34 by decide)).mono ?_
        rintro en w4 ⟨rfl, b4⟩
        have O4 := Lib.hid (own_bel OWN.out b4)
        have B4 := Lib.hid (HB.out.trans (b4.mono HB.out.size))
        have X4 := Lib.hid (XX.out.below b4)
        have L4 := Lib.hid (LL.out.below b4)
        have z4 : w.heap.size + 2 ≤ w4.heap.size := by have := b4.size; omega
        clear b4 k0 k1 k2 k3 k4 k5
        go_wp2_with (first | ((with_reducible refine wpList_buildSlice (o := ⟨some 34, .buildSlice 22 1 _, _, _, _, none⟩) rfl 22 52 1 _ rfl (flatB [atB ⟨27, 0, 2, 0, 0⟩]).toArray ie z Tryz.underlying22 H1.out H2.out ?k1 ?k2 ?k3 ?_); (case k1 => rw [H3.out]; decide); (case k2 => rw [H3.out]; decide); (case k3 => rw [H3.out, H4.out]; kernel_rfl)) | (at_builtin; refine app24 rfl _ _ rfl (w4.alloc (.cells (flatB [atB ⟨27, 0, 2, 0, 0⟩]).toArray 52)) (w.heap.size + 2) 5 cc va ((poC e).take 5) (atB ⟨27, 0, 2, 0, 0⟩) rfl (own_bel O4.out (below_new _ _)) (by omega) w4.heap.size rfl _ (heap_alloc_new w4 _) rfl (by simp; omega) ?_; intro g9 cap9 w9 hown9 hg9; have O9 := Lib.hid (show w9.ownsRow (w.heap.size + 2) 52 24 (.slice (some ⟨g9, 0, none⟩) 6 cap9) 6 (flatB ((poC e).take 6)) from hown9); have B9 := Lib.hid (((Below.refl (w.heap.size + 2) w4).alloc z4 _).grown hg9 (by simp; omega) (fun k hk => (O4.out.lt k (by rw [own_ob]; exact hk)).1)); clear hown9 hg9))
        go_roundg (10 - (5 + 1))
        case measure => omega
        case rel => exact ⟨5 + 1, some ⟨g9, 0, none⟩, cap9, by omega, rfl, rfl, by go_num, O9.out, B4.out.trans (B9.out.mono (by omega)), by have := B9.out.size; omega, X4.out.belowB B9.out (by omega), L4.out.belowB B9.out (by omega)⟩
      · clear hi
        have k0 : wr.cell? ⟨w.heap.size + 1, 36, none⟩ = some (.int .i64 27) := LL.out.cell 36
        have k1 : wr.cell? ⟨w.heap.size + 1, 37, none⟩ = some (.int .i64 0) := LL.out.cell 37
        have k2 : wr.cell? ⟨w.heap.size + 1, 38, none⟩ = some (.int .i64 4) := LL.out.cell 38
        have k3 : wr.cell? ⟨w.heap.size + 1, 39, none⟩ = some (.int .i64 0) := LL.out.cell 39
        have k4 : wr.cell? ⟨w.heap.size + 1, 40, none⟩ = some (.int .i64 0) := LL.out.cell 40
        have k5 : wr.cell? ⟨w.heap.size + 1, 41, none⟩ = some (.string ⟨#[]⟩) := LL.out.cell 41
        go_wp2_with fail
        refine (at_any ⟨27, 0, 4, 0, 0⟩ _ (show (27 : Nat) < 34 by decide)).mono ?_
        rintro en w4 ⟨rfl, b4⟩
        have O4 := Lib.hid (own_bel OWN.out b4)
        have B4 := Lib.hid (HB.out.trans (b4.mono HB.out.size))
        have X4 := Lib.hid (XX.out.below b4)
        have L4 := Lib.hid (LL.out.below b4)
        have z4 : w.heap.size + 2 ≤ w4.heap.size := by have := b4.size; omega
        clear b4 k0 k1 k2 k3 k4 k5
        go_wp2_with (first | ((with_reducible refine wpList_buildSlice (o := ⟨some 34, .buildSlice 22 1 _, _, _, _, none⟩) rfl 22 52 1 _ rfl (flatB [atB ⟨27, 0, 4, 0, 0⟩]).toArray ie z Tryz.underlying22 H1.out H2.out ?k1 ?k2 ?k3 ?_); (case k1 => rw [H3.out]; decide); (case k2 => rw [H3.out]; decide); (case k3 => rw [H3.out, H4.out]; kernel_rfl)) | (at_builtin; refine app24 rfl _ _ rfl (w4.alloc (.cells (flatB [atB ⟨27, 0, 4, 0, 0⟩]).toArray 52)) (w.heap.size + 2) 6 cc va ((poC e).take 6) (atB ⟨27, 0, 4, 0, 0⟩) rfl (own_bel O4.out (below_new _ _)) (by omega) w4.heap.size rfl _ (heap_alloc_new w4 _) rfl (by simp; omega) ?_; intro g9 cap9 w9 hown9 hg9; have O9 := Lib.hid (show w9.ownsRow (w.heap.size + 2) 52 24 (.slice (some ⟨g9, 0, none⟩) 7 cap9) 7 (flatB ((poC e).take 7)) from hown9); have B9 := Lib.hid (((Below.refl (w.heap.size + 2) w4).alloc z4 _).grown hg9 (by simp; omega) (fun k hk => (O4.out.lt k (by rw [own_ob]; exact hk)).1)); clear hown9 hg9))
        go_roundg (10 - (6 + 1))
        case measure => omega
        case rel => exact ⟨6 + 1, some ⟨g9, 0, none⟩, cap9, by omega, rfl, rfl, by go_num, O9.out, B4.out.trans (B9.out.mono (by omega)), by have := B9.out.size; omega, X4.out.belowB B9.out (by omega), L4.out.belowB B9.out (by omega)⟩
      · clear hi
        have k0 : wr.cell? ⟨w.heap.size + 1, 42, none⟩ = some (.int .i64 26) := LL.out.cell 42
        have k1 : wr.cell? ⟨w.heap.size + 1, 43, none⟩ = some (.int .i64 3) := LL.out.cell 43
        have k2 : wr.cell? ⟨w.heap.size + 1, 44, none⟩ = some (.int .i64 0) := LL.out.cell 44
        have k3 : wr.cell? ⟨w.heap.size + 1, 45, none⟩ = some (.int .i64 0) := LL.out.cell 45
        have k4 : wr.cell? ⟨w.heap.size + 1, 46, none⟩ = some (.int .i64 0) := LL.out.cell 46
        have k5 : wr.cell? ⟨w.heap.size + 1, 47, none⟩ = some (.string ⟨#[]⟩) := LL.out.cell 47
        go_wp2_with fail
        refine (at_any ⟨26, 3, 0, 0, 0⟩ _ (show (26 : Nat) < 34 by decide)).mono ?_
        rintro en w4 ⟨rfl, b4⟩
        have O4 := Lib.hid (own_bel OWN.out b4)
        have B4 := Lib.hid (HB.out.trans (b4.mono HB.out.size))
        have X4 := Lib.hid (XX.out.below b4)
        have L4 := Lib.hid (LL.out.below b4)
        have z4 : w.heap.size + 2 ≤ w4.heap.size := by have := b4.size; omega
        clear b4 k0 k1 k2 k3 k4 k5
        go_wp2_with (first | ((with_reducible refine wpList_buildSlice (o := ⟨some 34, .buildSlice 22 1 _, _, _, _, none⟩) rfl 22 52 1 _ rfl (flatB [atB ⟨26, 3, 0, 0, 0⟩]).toArray ie z Tryz.underlying22 H1.out H2.out ?k1 ?k2 ?k3 ?_); (case k1 => rw [H3.out]; decide); (case k2 => rw [H3.out]; decide); (case k3 => rw [H3.out, H4.out]; kernel_rfl)) | (at_builtin; refine app24 rfl _ _ rfl (w4.alloc (.cells (flatB [atB ⟨26, 3, 0, 0, 0⟩]).toArray 52)) (w.heap.size + 2) 7 cc va ((poC e).take 7) (atB ⟨26, 3, 0, 0, 0⟩) rfl (own_bel O4.out (below_new _ _)) (by omega) w4.heap.size rfl _ (heap_alloc_new w4 _) rfl (by simp; omega) ?_; intro g9 cap9 w9 hown9 hg9; have O9 := Lib.hid (show w9.ownsRow (w.heap.size + 2) 52 24 (.slice (some ⟨g9, 0, none⟩) 8 cap9) 8 (flatB ((poC e).take 8)) from hown9); have B9 := Lib.hid (((Below.refl (w.heap.size + 2) w4).alloc z4 _).grown hg9 (by simp; omega) (fun k hk => (O4.out.lt k (by rw [own_ob]; exact hk)).1)); clear hown9 hg9))
        go_roundg (10 - (7 + 1))
        case measure => omega
        case rel => exact ⟨7 + 1, some ⟨g9, 0, none⟩, cap9, by omega, rfl, rfl, by go_num, O9.out, B4.out.trans (B9.out.mono (by omega)), by have := B9.out.size; omega, X4.out.belowB B9.out (by omega), L4.out.belowB B9.out (by omega)⟩
      · clear hi
        have k0 : wr.cell? ⟨w.heap.size + 1, 48, none⟩ = some (.int .i64 27) := LL.out.cell 48
        have k1 : wr.cell? ⟨w.heap.size + 1, 49, none⟩ = some (.int .i64 0) := LL.out.cell 49
        have k2 : wr.cell? ⟨w.heap.size + 1, 50, none⟩ = some (.int .i64 4) := LL.out.cell 50
        have k3 : wr.cell? ⟨w.heap.size + 1, 51, none⟩ = some (.int .i64 0) := LL.out.cell 51
        have k4 : wr.cell? ⟨w.heap.size + 1, 52, none⟩ = some (.int .i64 0) := LL.out.cell 52
        have k5 : wr.cell? ⟨w.heap.size + 1, 53, none⟩ = some (.string ⟨#[]⟩) := LL.out.cell 53
        go_wp2_with fail
        refine (at_any ⟨27, 0, 4, 0, 0⟩ _ (show (27 : Nat) < 34 by decide)).mono ?_
        rintro en w4 ⟨rfl, b4⟩
        have O4 := Lib.hid (own_bel OWN.out b4)
        have B4 := Lib.hid (HB.out.trans (b4.mono HB.out.size))
        have X4 := Lib.hid (XX.out.below b4)
        have L4 := Lib.hid (LL.out.below b4)
        have z4 : w.heap.size + 2 ≤ w4.heap.size := by have := b4.size; omega
        clear b4 k0 k1 k2 k3 k4 k5
        go_wp2_with (first | ((with_reducible refine wpList_buildSlice (o := ⟨some 34, .buildSlice 22 1 _, _, _, _, none⟩) rfl 22 52 1 _ rfl (flatB [atB ⟨27, 0, 4, 0, 0⟩]).toArray ie z Tryz.underlying22 H1.out H2.out ?k1 ?k2 ?k3 ?_); (case k1 => rw [H3.out]; decide); (case k2 => rw [H3.out]; decide); (case k3 => rw [H3.out, H4.out]; kernel_rfl)) | (at_builtin; refine app24 rfl _ _ rfl (w4.alloc (.cells (flatB [atB ⟨27, 0, 4, 0, 0⟩]).toArray 52)) (w.heap.size + 2) 8 cc va ((poC e).take 8) (atB ⟨27, 0, 4, 0, 0⟩) rfl (own_bel O4.out (below_new _ _)) (by omega) w4.heap.size rfl _ (heap_alloc_new w4 _) rfl (by simp; omega) ?_; intro g9 cap9 w9 hown9 hg9; have O9 := Lib.hid (show w9.ownsRow (w.heap.size + 2) 52 24 (.slice (some ⟨g9, 0, none⟩) 9 cap9) 9 (flatB ((poC e).take 9)) from hown9); have B9 := Lib.hid (((Below.refl (w.heap.size + 2) w4).alloc z4 _).grown hg9 (by simp; omega) (fun k hk => (O4.out.lt k (by rw [own_ob]; exact hk)).1)); clear hown9 hg9))
        go_roundg (10 - (8 + 1))
        case measure => omega
        case rel => exact ⟨8 + 1, some ⟨g9, 0, none⟩, cap9, by omega, rfl, rfl, by go_num, O9.out, B4.out.trans (B9.out.mono (by omega)), by have := B9.out.size; omega, X4.out.belowB B9.out (by omega), L4.out.belowB B9.out (by omega)⟩
      · clear hi
        have k0 : wr.cell? ⟨w.heap.size + 1, 54, none⟩ = some (.int .i64 33) := LL.out.cell 54
        have k1 : wr.cell? ⟨w.heap.size + 1, 55, none⟩ = some (.int .i64 0) := LL.out.cell 55
        have k2 : wr.cell? ⟨w.heap.size + 1, 56, none⟩ = some (.int .i64 0) := LL.out.cell 56
        have k3 : wr.cell? ⟨w.heap.size + 1, 57, none⟩ = some (.int .i64 0) := LL.out.cell 57
        have k4 : wr.cell? ⟨w.heap.size + 1, 58, none⟩ = some (.int .i64 0) := LL.out.cell 58
        have k5 : wr.cell? ⟨w.heap.size + 1, 59, none⟩ = some (.string ⟨#[]⟩) := LL.out.cell 59
        go_wp2_with fail
        refine (at_any ⟨33, 0, 0, 0, 0⟩ _ (show (33 : Nat) < 34 by decide)).mono ?_
        rintro en w4 ⟨rfl, b4⟩
        have O4 := Lib.hid (own_bel OWN.out b4)
        have B4 := Lib.hid (HB.out.trans (b4.mono HB.out.size))
        have X4 := Lib.hid (XX.out.below b4)
        have L4 := Lib.hid (LL.out.below b4)
        have z4 : w.heap.size + 2 ≤ w4.heap.size := by have := b4.size; omega
        clear b4 k0 k1 k2 k3 k4 k5
        go_wp2_with (first | ((with_reducible refine wpList_buildSlice (o := ⟨some 34, .buildSlice 22 1 _, _, _, _, none⟩) rfl 22 52 1 _ rfl (flatB [atB ⟨33, 0, 0, 0, 0⟩]).toArray ie z Tryz.underlying22 H1.out H2.out ?k1 ?k2 ?k3 ?_); (case k1 => rw [H3.out]; decide); (case k2 => rw [H3.out]; decide); (case k3 => rw [H3.out, H4.out]; kernel_rfl)) | (at_builtin; refine app24 rfl _ _ rfl (w4.alloc (.cells (flatB [atB ⟨33, 0, 0, 0, 0⟩]).toArray 52)) (w.heap.size + 2) 9 cc va ((poC e).take 9) (atB ⟨33, 0, 0, 0, 0⟩) rfl (own_bel O4.out (below_new _ _)) (by omega) w4.heap.size rfl _ (heap_alloc_new w4 _) rfl (by simp; omega) ?_; intro g9 cap9 w9 hown9 hg9; have O9 := Lib.hid (show w9.ownsRow (w.heap.size + 2) 52 24 (.slice (some ⟨g9, 0, none⟩) 10 cap9) 10 (flatB ((poC e).take 10)) from hown9); have B9 := Lib.hid (((Below.refl (w.heap.size + 2) w4).alloc z4 _).grown hg9 (by simp; omega) (fun k hk => (O4.out.lt k (by rw [own_ob]; exact hk)).1)); clear hown9 hg9))
        go_roundg (10 - (9 + 1))
        case measure => omega
        case rel => exact ⟨9 + 1, some ⟨g9, 0, none⟩, cap9, by omega, rfl, rfl, by go_num, O9.out, B4.out.trans (B9.out.mono (by omega)), by have := B9.out.size; omega, X4.out.belowB B9.out (by omega), L4.out.belowB B9.out (by omega)⟩
    · have hd : decide ((i : Int) < 10) = false := by simp; omega
      obtain rfl : i = 10 := by omega
      have RC := Lib.hid (own_rdc (C := poC e) (by have := OWN.out; rwa [List.take_of_length_le (show (poC e).length ≤ 10 from Nat.le_refl 10)] at this) rfl (show 0 < 10 by decide))
      have TW := Lib.hid (TT.out.below HB.out)
      go_wp2_with fail
      refine (runs_any _ _ (poC e) [] _ RC.out VV.out (rd_nil _) (by decide) (by simp) TW.out).mono ?_
      rintro en w7 ⟨rfl, b7⟩
      have B7 := Lib.hid b7
      clear b7
      go_wp2_with fail
      refine (runs_any _ _ (poC e) [5] _ ((RC.out.keep B7.out).keep (below_new _ _)) VV.out (rd_row _ _ _ [5] _ rfl) (by decide) (by decide) ((TW.out.below B7.out).alloc _)).mono ?_
      rintro en w8 ⟨rfl, b8⟩
      have B8 := Lib.hid (B7.out.trans (((below_new w7 _).trans (b8.mono (by simp))).mono B7.out.size))
      clear b8
      go_wp2_with fail
      refine (runs_any _ _ (poC e) [5, 6, 7] _ ((RC.out.keep B8.out).keep (below_new _ _)) VV.out (rd_row _ _ _ [5, 6, 7] _ rfl) (by decide) (by decide) ((TW.out.below B8.out).alloc _)).mono ?_
      rintro en w9 ⟨rfl, b9⟩
      have B9 := Lib.hid (B8.out.trans (((below_new w8 _).trans (b9.mono (by simp))).mono B8.out.size))
      clear b9
      go_wp2_with fail
      go_ret
      exact ⟨rfl, HB.out.trans (B9.out.mono HB.out.size)⟩
end Go.Proofs.YtnkadjejdppanaaGreatDoor
