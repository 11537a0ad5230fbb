/-
  Which registers an instruction reads and writes, as the program and the page tell: the same; only new memory is made. Conditions: the tables lie in the world; the op is from 0 to 33.
  Reads and Writes of any instruction, of the program and of the page. Conditions: the tables lie in the world; the name is no longer than a string may be.
  The first hazard of a bundle, a cycle that looks, and so many of them, as Lean functions. No program is named here, no condition.
  Contract of package hazard's call reads: does an instruction read a register to which something flies? Conditions: the instruction may be; the tables lie in the world.
  Contract of package hazard's call find: the slot of a bundle's first hazard, behind what has landed. Conditions: the bundle and the state may be; the tables lie in the world.
  Contract of the page's call find: the slot of the first hazard of the bundle that comes, behind what has landed. Conditions: the code and the state may be.
-/
import Derived.Test.YtbgmdikcbglpiaaGreatDoorMay
import Derived.Test.YtbgmdikcbglpiaaGreatDoorRy
import Derived.Test.YtbgmdikcbglpiaaGreatDoorNew
import Derived.Deep.LoopGhost
namespace Go.Proofs.YtbgmdikcbglpiaaGreatDoor
open Go.RowKit

section
section
section
theorem Tryz.info9 : (Tryz.prog.info? 9).map (fun i => (i.zero, i.size, i.bytes)) = some (some (.string ⟨#[]⟩), 1, 16) := by kernel_rfl
/-- append of one element to a row of the call's own. -/
theorem app_one (t e : TypeId) (bytes : Nat) (z : Value) (hinfo : (Tryz.prog.info? e).map (fun i => (i.zero, i.size, i.bytes)) = some (some z, 1, bytes)) (hzs : z.cells.size = 1) (hby : bytes ≤ 16) (ht : Tryz.prog.underlying t = some (.slice e))
    {ops : Array Oper} {rest : List Oper} {o : Oper} {a : Act} {Q : Exit → Act → World → Prop} (hgd : o.guard = none) (s x : Operand) (ho : o.op = .call { callee := .builtin .append, args := #[s, x], argTypes := #[t, t] })
    (W : World) (base n : Nat) (v u : Value) (xs : List Value) (hs : a.eval s = v) (hown : W.ownsRow base e 1 v n xs) (hn : n ≤ 1000) (hu : u.oneCell' = true) (g : Nat) (hx : a.eval x = .slice (some ⟨g, 0, none⟩) 1 1) (hg0 : W.heap.size = g) (hbase : base ≤ W.heap.size)
    (h : ∀ v' w', w'.ownsRow base e 1 v' (n + 1) (xs ++ [u]) → (W.alloc (.cells #[u] e)).grownBy w' v.ownBlock → wpList Tryz.prog ops Q rest (a.put o.dst v') w') :
    wpList Tryz.prog ops Q (o :: rest) a (W.alloc (.cells #[u] e)) := by
  subst hg0
  obtain ⟨i, hi, he⟩ := Option.map_eq_some_iff.1 hinfo
  simp only [Prod.mk.injEq] at he
  refine wpList_append_own _ hgd s x t ho base e i z 1 bytes ht hi he.1 he.2.1 he.2.2 hzs (by decide) v n xs hs (hown.alloc _) ⟨W.heap.size, 0, none⟩ 1 1 [u] hx rfl ?_ (fun y hy => by simp at hy; subst hy; exact hu) ?_ ?_ (by simp; omega) (fun v' w' h1 h2 _ => h v' w' h1 h2)
  · exact (World.ownsRow_lit (base := 0) (e := e) (size := 1) W #[u] 1 (by simp) (by unfold maxLen; omega) rfl).cells rfl
  · unfold maxLen; omega
  · have : (n + 1) * bytes ≤ 1001 * 16 := Nat.mul_le_mul (by omega) hby
    omega
theorem app_below {W w' : World} {base e n : Nat} {v : Value} {xs : List Value} {ob : Obj} (hown : W.ownsRow base e 1 v n xs) (hg : (W.alloc ob).grownBy w' v.ownBlock) (hbase : base ≤ W.heap.size) : Below base W w' :=
  ((Below.refl base W).alloc hbase _).grown hg (by simp; omega) (fun k hk => (hown.lt k hk).1)
theorem own_le {w : World} {base base' e n : Nat} {v : Value} {xs : List Value} (h : w.ownsRow base e 1 v n xs) (hb : base' ≤ base) : w.ownsRow base' e 1 v n xs := Go.Joins.ownsRow_le h hb

/-- What an instruction reads. -/
def readsL (f : Nat) (a b : Int) : List Int := (if sa f then [a] else []) ++ (if sb f then [b] else [])
theorem readsL_le (f : Nat) (a b : Int) : (readsL f a b).length ≤ 2 := by unfold readsL; cases sa f <;> cases sb f <;> simp
set_option maxHeartbeats 1000000 in
theorem readsOf_00 (n : Nat) (d a b m : Int) (s : ByteArray) (w : World) (h : n < 34) (H : Tab w) (ca : sa (fm n) = false) (cb : sb (fm n) = false) : Calls Tryz.prog 115 #[.agg #[.int .i64 n, .int .i64 d, .int .i64 a, .int .i64 b, .int .i64 m, .string s]] w (NumsPost (readsL (fm n) a b) w) := by
  have T := Lib.hid H
  have RL := Lib.hid (show readsL (fm n) a b = [] by unfold readsL; rw [ca, cb]; rfl)
  clear H
  go_enter Tryz.func115, Tryz.ntmps115
  go_wp2_with fail
  refine (shape_any _ _ h (T.out.alloc _)).mono ?_
  rintro e w1 ⟨rfl, hb⟩
  rw [ca, cb]
  obtain ⟨q, hz, hB⟩ := box_cells hb
  have k2 : w1.cell? ⟨w.heap.size, 2, none⟩ = some (.int .i64 a) := q 2
  have k3 : w1.cell? ⟨w.heap.size, 3, none⟩ = some (.int .i64 b) := q 3
  have HB := Lib.hid hB
  clear q hb hB ca cb
  go_wp2
  go_ret
  exact ⟨_, rfl, by rw [RL.out]; exact World.ownsRow_nil _ _ _ _, HB.out.alloc (by omega) _⟩
set_option maxHeartbeats 1000000 in
theorem readsOf_01 (n : Nat) (d a b m : Int) (s : ByteArray) (w : World) (h : n < 34) (H : Tab w) (ca : sa (fm n) = false) (cb : sb (fm n) = true) : Calls Tryz.prog 115 #[.agg #[.int .i64 n, .int .i64 d, .int .i64 a, .int .i64 b, .int .i64 m, .string s]] w (NumsPost (readsL (fm n) a b) w) := by
  have T := Lib.hid H
  have RL := Lib.hid (show readsL (fm n) a b = [b] by unfold readsL; rw [ca, cb]; rfl)
  clear H
  go_enter Tryz.func115, Tryz.ntmps115
  go_wp2_with fail
  refine (shape_any _ _ h (T.out.alloc _)).mono ?_
  rintro e w1 ⟨rfl, hb⟩
  rw [ca, cb]
  obtain ⟨q, hz, hB⟩ := box_cells hb
  have k2 : w1.cell? ⟨w.heap.size, 2, none⟩ = some (.int .i64 a) := q 2
  have k3 : w1.cell? ⟨w.heap.size, 3, none⟩ = some (.int .i64 b) := q 3
  have HB := Lib.hid hB
  clear q hb hB ca cb
  go_wp2_with (at_builtin; refine app_one 24 3 8 (.int .i64 0) Tryz.info3 rfl (by decide) Tryz.underlying24 (by rfl) _ _ (by rfl) _ (w1.heap.size + 1) 0 _ _ [] (by rfl) (World.ownsRow_nil _ _ _ _) (by decide) (by rfl) _ (by rfl) (by simp) ?hb ?_)
  case hb => simp
  intro v' w3 hown hg
  have hbl := app_below (base := w1.heap.size + 1) (e := 3) (World.ownsRow_nil _ _ _ _) hg (by simp)
  have HO := Lib.hid hown
  have HL := Lib.hid hbl
  have HB2 := Lib.hid ((HB.out.alloc (by omega) _).trans (hbl.mono (by omega)))
  have l0 : w3.cell? ⟨w1.heap.size, 2, none⟩ = some (.bool true) := (hbl.cell (p := ⟨w1.heap.size, 2, none⟩) (by simp)).trans (by simp [go_sem])
  clear hown hg hbl
  go_wp2
  go_ret
  exact ⟨v', rfl, by rw [RL.out]; exact own_le HO.out (by omega), HB2.out⟩
set_option maxHeartbeats 1000000 in
theorem readsOf_10 (n : Nat) (d a b m : Int) (s : ByteArray) (w : World) (h : n < 34) (H : Tab w) (ca : sa (fm n) = true) (cb : sb (fm n) = false) : Calls Tryz.prog 115 #[.agg #[.int .i64 n, .int .i64 d, .int .i64 a, .int .i64 b, .int .i64 m, .string s]] w (NumsPost (readsL (fm n) a b) w) := by
  have T := Lib.hid H
  have RL := Lib.hid (show readsL (fm n) a b = [a] by unfold readsL; rw [ca, cb]; rfl)
  clear H
  go_enter Tryz.func115, Tryz.ntmps115
  go_wp2_with fail
  refine (shape_any _ _ h (T.out.alloc _)).mono ?_
  rintro e w1 ⟨rfl, hb⟩
  rw [ca, cb]
  obtain ⟨q, hz, hB⟩ := box_cells hb
  have k2 : w1.cell? ⟨w.heap.size, 2, none⟩ = some (.int .i64 a) := q 2
  have k3 : w1.cell? ⟨w.heap.size, 3, none⟩ = some (.int .i64 b) := q 3
  have HB := Lib.hid hB
  clear q hb hB ca cb
  go_wp2_with (at_builtin; refine app_one 24 3 8 (.int .i64 0) Tryz.info3 rfl (by decide) Tryz.underlying24 (by rfl) _ _ (by rfl) _ (w1.heap.size + 1) 0 _ _ [] (by rfl) (World.ownsRow_nil _ _ _ _) (by decide) (by rfl) _ (by rfl) (by simp) ?hb ?_)
  case hb => simp
  intro v' w3 hown hg
  have hbl := app_below (base := w1.heap.size + 1) (e := 3) (World.ownsRow_nil _ _ _ _) hg (by simp)
  have HO := Lib.hid hown
  have HL := Lib.hid hbl
  have HB2 := Lib.hid ((HB.out.alloc (by omega) _).trans (hbl.mono (by omega)))
  have l0 : w3.cell? ⟨w1.heap.size, 2, none⟩ = some (.bool false) := (hbl.cell (p := ⟨w1.heap.size, 2, none⟩) (by simp)).trans (by simp [go_sem])
  clear hown hg hbl
  go_wp2
  go_ret
  exact ⟨v', rfl, by rw [RL.out]; exact own_le HO.out (by omega), HB2.out⟩
set_option maxHeartbeats 1000000 in
theorem readsOf_11 (n : Nat) (d a b m : Int) (s : ByteArray) (w : World) (h : n < 34) (H : Tab w) (ca : sa (fm n) = true) (cb : sb (fm n) = true) : Calls Tryz.prog 115 #[.agg #[.int .i64 n, .int .i64 d, .int .i64 a, .int .i64 b, .int .i64 m, .string s]] w (NumsPost (readsL (fm n) a b) w) := by
  have T := Lib.hid H
  have RL := Lib.hid (show readsL (fm n) a b = [a, b] by unfold readsL; rw [ca, cb]; rfl)
  clear H
  go_enter Tryz.func115, Tryz.ntmps115
  go_wp2_with fail
  refine (shape_any _ _ h (T.out.alloc _)).mono ?_
  rintro e w1 ⟨rfl, hb⟩
  rw [ca, cb]
  obtain ⟨q, hz, hB⟩ := box_cells hb
  have k2 : w1.cell? ⟨w.heap.size, 2, none⟩ = some (.int .i64 a) := q 2
  have k3 : w1.cell? ⟨w.heap.size, 3, none⟩ = some (.int .i64 b) := q 3
  have HB := Lib.hid hB
  clear q hb hB ca cb
  go_wp2_with (at_builtin; refine app_one 24 3 8 (.int .i64 0) Tryz.info3 rfl (by decide) Tryz.underlying24 (by rfl) _ _ (by rfl) _ (w1.heap.size + 1) 0 _ _ [] (by rfl) (World.ownsRow_nil _ _ _ _) (by decide) (by rfl) _ (by rfl) (by simp) ?hb ?_)
  case hb => simp
  intro v' w3 hown hg
  have hbl := app_below (base := w1.heap.size + 1) (e := 3) (World.ownsRow_nil _ _ _ _) hg (by simp)
  have HO := Lib.hid hown
  have HL := Lib.hid hbl
  have HB2 := Lib.hid ((HB.out.alloc (by omega) _).trans (hbl.mono (by omega)))
  have hz3 : w1.heap.size + 1 ≤ w3.heap.size := by have := hbl.size; simp at this; omega
  have l0 : w3.cell? ⟨w1.heap.size, 2, none⟩ = some (.bool true) := (hbl.cell (p := ⟨w1.heap.size, 2, none⟩) (by simp)).trans (by simp [go_sem])
  have l3 : w3.cell? ⟨w.heap.size, 3, none⟩ = some (.int .i64 b) := (hbl.cell (p := ⟨w.heap.size, 3, none⟩) (by simp; omega)).trans (by simp [go_sem, hz, k3])
  clear hown hg hbl
  go_wp2_with (at_builtin; refine app_one 24 3 8 (.int .i64 0) Tryz.info3 rfl (by decide) Tryz.underlying24 (by rfl) _ _ (by rfl) _ (w1.heap.size + 1) 1 _ _ _ (by rfl) HO.out (by decide) (by rfl) _ (by rfl) (by simp) ?hb ?_)
  case hb => exact hz3
  intro v2 w4 hown hg
  have hbl := app_below HO.out hg hz3
  go_wp2
  go_ret
  exact ⟨v2, rfl, by rw [RL.out]; exact own_le hown (by omega), HB2.out.trans (hbl.mono (by omega))⟩

theorem readsOf_any (n : Nat) (d a b m : Int) (s : ByteArray) (w : World) (h : n < 34) (H : Tab w) : Calls Tryz.prog 115 #[.agg #[.int .i64 n, .int .i64 d, .int .i64 a, .int .i64 b, .int .i64 m, .string s]] w (NumsPost (readsL (fm n) a b) w) := by
  cases ca : sa (fm n)
  · cases cb : sb (fm n)
    · exact readsOf_00 n d a b m s w h H ca cb
    · exact readsOf_01 n d a b m s w h H ca cb
  · cases cb : sb (fm n)
    · exact readsOf_10 n d a b m s w h H ca cb
    · exact readsOf_11 n d a b m s w h H ca cb
end
section
/-- No instruction: no op, or a field is wrong. -/
def Bad (o d a b m : Int) (s : ByteArray) : Prop := (o < 0 ∨ 33 < o) ∨ ∃ n : Nat, n < 34 ∧ o = n ∧ insB n d a b m s = false
theorem check_good (n : Nat) (d a b m : Int) (s : ByteArray) (w : World) (h : n < 34) (H : Tab w) (hs : s.size ≤ maxLen) (hi : insB n d a b m s = true) : Calls Tryz.prog 86 #[.agg #[.int .i64 n, .int .i64 d, .int .i64 a, .int .i64 b, .int .i64 m, .string s]] w (IntBelow 0 w) := by
  have := check_any n d a b m s w h H hs
  rw [chk_ins n d a b m s h, hi] at this
  exact this
theorem check_bad (o : Int) (d a b m : Int) (s : ByteArray) (w : World) (H : Tab w) (hs : s.size ≤ maxLen) (hi : Bad o d a b m s) : Calls Tryz.prog 86 #[.agg #[.int .i64 o, .int .i64 d, .int .i64 a, .int .i64 b, .int .i64 m, .string s]] w (IntBelow 1 w) := by
  rcases hi with h | ⟨n, h, rfl, hi⟩
  · exact check_no o d a b m s w h
  · have := check_any n d a b m s w h H hs
    rw [chk_ins n d a b m s h, hi] at this
    exact this
theorem ins_bad (o : Int) (d a b m : Int) (s : ByteArray) (w : World) (hs : s.size ≤ maxLen) (hi : Bad o d a b m s) : Calls Tryz.prog 89 #[.agg #[.int .i64 o, .int .i64 d, .int .i64 a, .int .i64 b, .int .i64 m, .string s]] w (BoolBelow false w) := by
  rcases hi with h | ⟨n, h, rfl, hi⟩
  · exact ins_no o d a b m s w h
  · have := ins_any n d a b m s w h hs
    rw [hi] at this
    exact this
theorem ins_good (n : Nat) (d a b m : Int) (s : ByteArray) (w : World) (h : n < 34) (hs : s.size ≤ maxLen) (hi : insB n d a b m s = true) : Calls Tryz.prog 89 #[.agg #[.int .i64 n, .int .i64 d, .int .i64 a, .int .i64 b, .int .i64 m, .string s]] w (BoolBelow true w) := by
  have := ins_any n d a b m s w h hs
  rw [hi] at this
  exact this

theorem field_d (x0 x1 x2 x5 : Bool) (x3 x4 : Int) (W : World) : (Instr.field 109 (.agg #[.bool x0, .bool x1, .bool x2, .int .i64 x3, .int .i64 x4, .bool x5]) 0).run Tryz.prog W = .ok (.bool x0) W := by kernel_rfl
def TwoBelow (x c : Int) (w : World) (e : Ending) (w' : World) : Prop := e = .returned (.tuple #[.int .i64 x, .int .i64 c]) ∧ Below w.heap.size w w'
def NumsTwo (zs : List Int) (c : Int) (w : World) (e : Ending) (w' : World) : Prop := ∃ v, e = .returned (.tuple #[v, .int .i64 c]) ∧ w'.ownsRow w.heap.size 3 1 v zs.length (zs.map (Value.int .i64)) ∧ Below w.heap.size w w'
set_option maxHeartbeats 400000 in
theorem reads_good (n : Nat) (d a b m : Int) (s : ByteArray) (w : World) (h : n < 34) (H : Tab w) (hs : s.size ≤ maxLen) (hi : insB n d a b m s = true) : Calls Tryz.prog 97 #[.agg #[.int .i64 n, .int .i64 d, .int .i64 a, .int .i64 b, .int .i64 m, .string s]] w (NumsTwo (readsL (fm n) a b) 0 w) := by
  have T := Lib.hid H
  clear H
  go_enter Tryz.func97, Tryz.ntmps97
  go_wp2_with fail
  refine (check_good _ _ _ _ _ _ _ h (T.out.alloc _) hs hi).mono ?_
  rintro e w1 ⟨rfl, hb⟩
  obtain ⟨q, hz, hB⟩ := box_cells hb
  have k0 : w1.cell? ⟨w.heap.size, 0, none⟩ = some (.int .i64 n) := q 0
  have k1 : w1.cell? ⟨w.heap.size, 1, none⟩ = some (.int .i64 d) := q 1
  have k2 : w1.cell? ⟨w.heap.size, 2, none⟩ = some (.int .i64 a) := q 2
  have k3 : w1.cell? ⟨w.heap.size, 3, none⟩ = some (.int .i64 b) := q 3
  have k4 : w1.cell? ⟨w.heap.size, 4, none⟩ = some (.int .i64 m) := q 4
  have k5 : w1.cell? ⟨w.heap.size, 5, none⟩ = some (.string s) := q 5
  have T1 := Lib.hid ((T.out.alloc _).below hb)
  have HB := Lib.hid hB
  clear q hb hB
  go_wp2_with (go_at_call 115; refine (readsOf_any _ _ _ _ _ _ _ h T1.out).mono ?_; rintro e w2 ⟨v, rfl, hown, hb2⟩)
  go_ret2
  exact ⟨v, rfl, own_le hown (by omega), HB.out.trans (hb2.mono (by omega))⟩
theorem reads_bad (o : Int) (d a b m : Int) (s : ByteArray) (w : World) (H : Tab w) (hs : s.size ≤ maxLen) (hi : Bad o d a b m s) : Calls Tryz.prog 97 #[.agg #[.int .i64 o, .int .i64 d, .int .i64 a, .int .i64 b, .int .i64 m, .string s]] w (NumsTwo [] 1 w) := by
  have T := Lib.hid H
  have HI := Lib.hid hi
  clear H hi
  go_enter Tryz.func97, Tryz.ntmps97
  go_wp2_with fail
  refine (check_bad _ _ _ _ _ _ _ (T.out.alloc _) hs HI.out).mono ?_
  rintro e w1 ⟨rfl, hb⟩
  go_wp2
  go_ret2
  exact ⟨_, rfl, World.ownsRow_nil _ _ _ _, (below_new _ _).trans (hb.mono (by simp))⟩
set_option maxHeartbeats 400000 in
set_option maxRecDepth 100000 in
theorem writes_d (n : Nat) (d a b m : Int) (s : ByteArray) (w : World) (h : n < 34) (H : Tab w) (hs : s.size ≤ maxLen) (hi : insB n d a b m s = true) (hd : sd (fm n) = true) : Calls Tryz.prog 81 #[.agg #[.int .i64 n, .int .i64 d, .int .i64 a, .int .i64 b, .int .i64 m, .string s]] w (TwoBelow d 0 w) := by
  have T := Lib.hid H
  have hfd := field_d (sd (fm n)) (sa (fm n)) (sb (fm n)) (stg (fm n)) (slo (fm n)) (shi (fm n))
  rw [hd] at hfd
  clear H
  go_enter Tryz.func81, Tryz.ntmps81
  go_wp2_with fail
  refine (check_good _ _ _ _ _ _ _ h (T.out.alloc _) hs hi).mono ?_
  rintro e w1 ⟨rfl, hb⟩
  obtain ⟨q, hz, hB⟩ := box_cells hb
  have k0 : w1.cell? ⟨w.heap.size, 0, none⟩ = some (.int .i64 n) := q 0
  have k1 : w1.cell? ⟨w.heap.size, 1, none⟩ = some (.int .i64 d) := q 1
  have k2 : w1.cell? ⟨w.heap.size, 2, none⟩ = some (.int .i64 a) := q 2
  have k3 : w1.cell? ⟨w.heap.size, 3, none⟩ = some (.int .i64 b) := q 3
  have k4 : w1.cell? ⟨w.heap.size, 4, none⟩ = some (.int .i64 m) := q 4
  have k5 : w1.cell? ⟨w.heap.size, 5, none⟩ = some (.string s) := q 5
  have T1 := Lib.hid ((T.out.alloc _).below hb)
  have HB := Lib.hid hB
  clear q hb hB
  go_wp2_with (go_at_call 99; refine (shape_any _ _ h T1.out).mono ?_; rintro e w2 ⟨rfl, hb2⟩; have l1 : w2.cell? ⟨w.heap.size, 1, none⟩ = some (.int .i64 d) := (hb2.cell (p := ⟨w.heap.size, 1, none⟩) hz).trans k1; have HB2 := Lib.hid hb2; clear hb2)
  go_ret2
  exact ⟨rfl, HB.out.trans (HB2.out.mono (by omega))⟩
set_option maxHeartbeats 400000 in
set_option maxRecDepth 100000 in
theorem writes_no (n : Nat) (d a b m : Int) (s : ByteArray) (w : World) (h : n < 34) (H : Tab w) (hs : s.size ≤ maxLen) (hi : insB n d a b m s = true) (hd : sd (fm n) = false) : Calls Tryz.prog 81 #[.agg #[.int .i64 n, .int .i64 d, .int .i64 a, .int .i64 b, .int .i64 m, .string s]] w (TwoBelow 0 9 w) := by
  have T := Lib.hid H
  have hfd := field_d (sd (fm n)) (sa (fm n)) (sb (fm n)) (stg (fm n)) (slo (fm n)) (shi (fm n))
  rw [hd] at hfd
  clear H
  go_enter Tryz.func81, Tryz.ntmps81
  go_wp2_with fail
  refine (check_good _ _ _ _ _ _ _ h (T.out.alloc _) hs hi).mono ?_
  rintro e w1 ⟨rfl, hb⟩
  obtain ⟨q, hz, hB⟩ := box_cells hb
  have k0 : w1.cell? ⟨w.heap.size, 0, none⟩ = some (.int .i64 n) := q 0
  have k1 : w1.cell? ⟨w.heap.size, 1, none⟩ = some (.int .i64 d) := q 1
  have k2 : w1.cell? ⟨w.heap.size, 2, none⟩ = some (.int .i64 a) := q 2
  have k3 : w1.cell? ⟨w.heap.size, 3, none⟩ = some (.int .i64 b) := q 3
  have k4 : w1.cell? ⟨w.heap.size, 4, none⟩ = some (.int .i64 m) := q 4
  have k5 : w1.cell? ⟨w.heap.size, 5, none⟩ = some (.string s) := q 5
  have T1 := Lib.hid ((T.out.alloc _).below hb)
  have HB := Lib.hid hB
  clear q hb hB
  go_wp2_with (go_at_call 99; refine (shape_any _ _ h T1.out).mono ?_; rintro e w2 ⟨rfl, hb2⟩; have HB2 := Lib.hid hb2; clear hb2)
  go_ret2
  exact ⟨rfl, HB.out.trans (HB2.out.mono (by omega))⟩
theorem writes_bad (o : Int) (d a b m : Int) (s : ByteArray) (w : World) (H : Tab w) (hs : s.size ≤ maxLen) (hi : Bad o d a b m s) : Calls Tryz.prog 81 #[.agg #[.int .i64 o, .int .i64 d, .int .i64 a, .int .i64 b, .int .i64 m, .string s]] w (TwoBelow 0 1 w) := by
  have T := Lib.hid H
  have HI := Lib.hid hi
  clear H hi
  go_enter Tryz.func81, Tryz.ntmps81
  go_wp2_with fail
  refine (check_bad _ _ _ _ _ _ _ (T.out.alloc _) hs HI.out).mono ?_
  rintro e w1 ⟨rfl, hb⟩
  go_wp2
  go_ret2
  exact ⟨rfl, (below_new _ _).trans (hb.mono (by simp))⟩

/-! ### The page's own -/
theorem rwrites_any (n : Nat) (d a b m : Int) (s : ByteArray) (w : World) (h : n < 34) : Calls Tryz.prog 77 #[.agg #[.int .i64 n, .int .i64 d, .int .i64 a, .int .i64 b, .int .i64 m, .string s]] w (IntBelow (if sd (fm n) then d else -1) w) := by
  have hf := fm_lt h
  cases hd : sd (fm n)
  all_goals
    go_enter Tryz.func77, Tryz.ntmps77
    go_wp2_with fail
    refine (rform_any _ _ h).mono ?_
    rintro e w1 ⟨rfl, hb⟩
    obtain ⟨q, hz, hB⟩ := box_cells hb
    have k1 : w1.cell? ⟨w.heap.size, 1, none⟩ = some (.int .i64 d) := q 1
    have HB := Lib.hid hB
    clear q hb hB
    go_wp2_with (go_at_call 33; refine (hasD_any _ _ hf).mono ?_; rintro e w' ⟨rfl, rfl⟩)
    go_ret
    exact ⟨rfl, HB.out⟩
set_option maxHeartbeats 1000000 in
theorem rreads_00 (n : Nat) (d a b m : Int) (s : ByteArray) (w : World) (h : n < 34) (ca : sa (fm n) = false) (cb : sb (fm n) = false) : Calls Tryz.prog 75 #[.agg #[.int .i64 n, .int .i64 d, .int .i64 a, .int .i64 b, .int .i64 m, .string s]] w (NumsPost (readsL (fm n) a b) w) := by
  have hf := fm_lt h
  have RL := Lib.hid (show readsL (fm n) a b = [] by unfold readsL; rw [ca, cb]; rfl)
  go_enter Tryz.func75, Tryz.ntmps75
  go_wp2_with fail
  refine (rform_any _ _ h).mono ?_
  rintro e w1 ⟨rfl, hb⟩
  obtain ⟨q, hz, hB⟩ := box_cells hb
  have k2 : w1.cell? ⟨w.heap.size, 2, none⟩ = some (.int .i64 a) := q 2
  have k3 : w1.cell? ⟨w.heap.size, 3, none⟩ = some (.int .i64 b) := q 3
  have HB := Lib.hid hB
  clear q hb hB
  go_wp2_with (first | (go_at_call 91; refine (hasA_any _ _ hf).mono ?_; rintro e w' ⟨rfl, rfl⟩) | (go_at_call 92; refine (hasB_any _ _ hf).mono ?_; rintro e w' ⟨rfl, rfl⟩))
  go_ret
  exact ⟨_, rfl, by rw [RL.out]; exact World.ownsRow_nil _ _ _ _, HB.out⟩
set_option maxHeartbeats 1000000 in
theorem rreads_01 (n : Nat) (d a b m : Int) (s : ByteArray) (w : World) (h : n < 34) (ca : sa (fm n) = false) (cb : sb (fm n) = true) : Calls Tryz.prog 75 #[.agg #[.int .i64 n, .int .i64 d, .int .i64 a, .int .i64 b, .int .i64 m, .string s]] w (NumsPost (readsL (fm n) a b) w) := by
  have hf := fm_lt h
  have RL := Lib.hid (show readsL (fm n) a b = [b] by unfold readsL; rw [ca, cb]; rfl)
  go_enter Tryz.func75, Tryz.ntmps75
  go_wp2_with fail
  refine (rform_any _ _ h).mono ?_
  rintro e w1 ⟨rfl, hb⟩
  obtain ⟨q, hz, hB⟩ := box_cells hb
  have k2 : w1.cell? ⟨w.heap.size, 2, none⟩ = some (.int .i64 a) := q 2
  have k3 : w1.cell? ⟨w.heap.size, 3, none⟩ = some (.int .i64 b) := q 3
  have HB := Lib.hid hB
  clear q hb hB
  go_wp2_with (first | (go_at_call 91; refine (hasA_any _ _ hf).mono ?_; rintro e w' ⟨rfl, rfl⟩) | (go_at_call 92; refine (hasB_any _ _ hf).mono ?_; rintro e w' ⟨rfl, rfl⟩) | (at_builtin; refine app_one 24 3 8 (.int .i64 0) Tryz.info3 rfl (by decide) Tryz.underlying24 (by rfl) _ _ (by rfl) _ w1.heap.size 0 _ _ [] (by rfl) (World.ownsRow_nil _ _ _ _) (by decide) (by rfl) _ (by rfl) (by simp) ?hb ?_))
  case hb => exact Nat.le_refl _
  intro v' w3 hown hg
  have hbl := app_below (base := w1.heap.size) (e := 3) (World.ownsRow_nil _ _ _ _) hg (Nat.le_refl _)
  have HO := Lib.hid hown
  have HB2 := Lib.hid (HB.out.trans (hbl.mono (by omega)))
  clear hown hg hbl
  go_wp2_with (go_at_call 92; refine (hasB_any _ _ hf).mono ?_; rintro e w' ⟨rfl, rfl⟩)
  go_ret
  exact ⟨v', rfl, by rw [RL.out]; exact own_le HO.out (by omega), HB2.out⟩
set_option maxHeartbeats 1000000 in
theorem rreads_10 (n : Nat) (d a b m : Int) (s : ByteArray) (w : World) (h : n < 34) (ca : sa (fm n) = true) (cb : sb (fm n) = false) : Calls Tryz.prog 75 #[.agg #[.int .i64 n, .int .i64 d, .int .i64 a, .int .i64 b, .int .i64 m, .string s]] w (NumsPost (readsL (fm n) a b) w) := by
  have hf := fm_lt h
  have RL := Lib.hid (show readsL (fm n) a b = [a] by unfold readsL; rw [ca, cb]; rfl)
  go_enter Tryz.func75, Tryz.ntmps75
  go_wp2_with fail
  refine (rform_any _ _ h).mono ?_
  rintro e w1 ⟨rfl, hb⟩
  obtain ⟨q, hz, hB⟩ := box_cells hb
  have k2 : w1.cell? ⟨w.heap.size, 2, none⟩ = some (.int .i64 a) := q 2
  have k3 : w1.cell? ⟨w.heap.size, 3, none⟩ = some (.int .i64 b) := q 3
  have HB := Lib.hid hB
  clear q hb hB
  go_wp2_with (first | (go_at_call 91; refine (hasA_any _ _ hf).mono ?_; rintro e w' ⟨rfl, rfl⟩) | (go_at_call 92; refine (hasB_any _ _ hf).mono ?_; rintro e w' ⟨rfl, rfl⟩) | (at_builtin; refine app_one 24 3 8 (.int .i64 0) Tryz.info3 rfl (by decide) Tryz.underlying24 (by rfl) _ _ (by rfl) _ w1.heap.size 0 _ _ [] (by rfl) (World.ownsRow_nil _ _ _ _) (by decide) (by rfl) _ (by rfl) (by simp) ?hb ?_))
  case hb => exact Nat.le_refl _
  intro v' w3 hown hg
  have hbl := app_below (base := w1.heap.size) (e := 3) (World.ownsRow_nil _ _ _ _) hg (Nat.le_refl _)
  have HO := Lib.hid hown
  have HB2 := Lib.hid (HB.out.trans (hbl.mono (by omega)))
  clear hown hg hbl
  go_wp2_with (go_at_call 92; refine (hasB_any _ _ hf).mono ?_; rintro e w' ⟨rfl, rfl⟩)
  go_ret
  exact ⟨v', rfl, by rw [RL.out]; exact own_le HO.out (by omega), HB2.out⟩
set_option maxHeartbeats 1000000 in
theorem rreads_11 (n : Nat) (d a b m : Int) (s : ByteArray) (w : World) (h : n < 34) (ca : sa (fm n) = true) (cb : sb (fm n) = true) : Calls Tryz.prog 75 #[.agg #[.int .i64 n, .int .i64 d, .int .i64 a, .int .i64 b, .int .i64 m, .string s]] w (NumsPost (readsL (fm n) a b) w) := by
  have hf := fm_lt h
  have RL := Lib.hid (show readsL (fm n) a b = [a, b] by unfold readsL; rw [ca, cb]; rfl)
  go_enter Tryz.func75, Tryz.ntmps75
  go_wp2_with fail
  refine (rform_any _ _ h).mono ?_
  rintro e w1 ⟨rfl, hb⟩
  obtain ⟨q, hz, hB⟩ := box_cells hb
  have k2 : w1.cell? ⟨w.heap.size, 2, none⟩ = some (.int .i64 a) := q 2
  have k3 : w1.cell? ⟨w.heap.size, 3, none⟩ = some (.int .i64 b) := q 3
  have HB := Lib.hid hB
  clear q hb hB
  go_wp2_with (first | (go_at_call 91; refine (hasA_any _ _ hf).mono ?_; rintro e w' ⟨rfl, rfl⟩) | (at_builtin; refine app_one 24 3 8 (.int .i64 0) Tryz.info3 rfl (by decide) Tryz.underlying24 (by rfl) _ _ (by rfl) _ w1.heap.size 0 _ _ [] (by rfl) (World.ownsRow_nil _ _ _ _) (by decide) (by rfl) _ (by rfl) (by simp) ?hb ?_))
  case hb => exact Nat.le_refl _
  intro v' w3 hown hg
  have hbl := app_below (base := w1.heap.size) (e := 3) (World.ownsRow_nil _ _ _ _) hg (Nat.le_refl _)
  have HO := Lib.hid hown
  have HB2 := Lib.hid (HB.out.trans (hbl.mono (by omega)))
  have hz3 : w1.heap.size ≤ w3.heap.size := hbl.size
  have l3 : w3.cell? ⟨w.heap.size, 3, none⟩ = some (.int .i64 b) := (hbl.cell (p := ⟨w.heap.size, 3, none⟩) hz).trans k3
  clear hown hg hbl
  go_wp2_with (first | (go_at_call 92; refine (hasB_any _ _ hf).mono ?_; rintro e w' ⟨rfl, rfl⟩) | (at_builtin; refine app_one 24 3 8 (.int .i64 0) Tryz.info3 rfl (by decide) Tryz.underlying24 (by rfl) _ _ (by rfl) _ w1.heap.size 1 _ _ _ (by rfl) HO.out (by decide) (by rfl) _ (by rfl) (by simp) ?hb ?_))
  case hb => exact hz3
  intro v2 w4 hown hg
  have hbl := app_below HO.out hg hz3
  go_wp2
  go_ret
  exact ⟨v2, rfl, by rw [RL.out]; exact own_le hown (by omega), HB2.out.trans (hbl.mono (by omega))⟩

theorem rreads_any (n : Nat) (d a b m : Int) (s : ByteArray) (w : World) (h : n < 34) : Calls Tryz.prog 75 #[.agg #[.int .i64 n, .int .i64 d, .int .i64 a, .int .i64 b, .int .i64 m, .string s]] w (NumsPost (readsL (fm n) a b) w) := by
  cases ca : sa (fm n)
  · cases cb : sb (fm n)
    · exact rreads_00 n d a b m s w h ca cb
    · exact rreads_01 n d a b m s w h ca cb
  · cases cb : sb (fm n)
    · exact rreads_10 n d a b m s w h ca cb
    · exact rreads_11 n d a b m s w h ca cb
end
end
section
/-- The registers that an instruction reads. -/
def rds (x : In5) : List Nat := (if sa (fm x.o) then [x.a] else []) ++ (if sb (fm x.o) then [x.b] else [])
/-- Does something fly to a register? -/
def fliesTo (fl : List Fl) (r : Nat) : Bool := fl.any fun f => f.r == r
/-- Is a slot a hazard, behind slots that write these? -/
def hz1 (dl : Nat) (fl : List Fl) (wr : List Nat) (x : In5) : Bool :=
  (decide (28 ≤ x.o) && decide (0 < dl)) || (rds x).any (fliesTo fl) || (sd (fm x.o) && (fliesTo fl x.d || wr.contains x.d))
def wrs (x : In5) (wr : List Nat) : List Nat := if sd (fm x.o) then x.d :: wr else wr
/-- The first slot that is a hazard, counted from i; -1: none. -/
def hz (dl : Nat) (fl : List Fl) : Nat → List Nat → List In5 → Int
  | _, _, [] => -1
  | i, wr, x :: l => if hz1 dl fl wr x then i else hz dl fl (i + 1) (wrs x wr) l
/-- The first hazard of the bundle that comes, in a state behind what has landed. -/
def fnd (C : List (List In5)) (m : M) : Int := if C.length ≤ m.pc then -1 else hz m.dl m.fl 0 [] (C.getD m.pc [])
/-- The first hazard, in any state. -/
def hfind (C : List (List In5)) (m : M) : Int := if m.stop = 0 then fnd C (land m) else -1
/-- A cycle that looks. -/
def hcyc (C : List (List In5)) (m : M) : M := if 0 ≤ fnd C (land m) then stop (land m) 6 else cyc C m
/-- Up to so many, and how many they were. -/
def runH (C : List (List In5)) : Nat → M → M × Nat
  | 0, m => (m, 0)
  | n + 1, m => if m.stop = 0 then ((runH C n (hcyc C m)).1, (runH C n (hcyc C m)).2 + 1) else (m, 0)
section
variable {C : List (List In5)} {m m0 : M} {n i : Nat} {dl : Nat} {fl : List Fl} {wr : List Nat} {x : In5} {l : List In5}
theorem hz_range (i : Nat) (wr : List Nat) (l : List In5) : hz dl fl i wr l = -1 ∨ ((i : Int) ≤ hz dl fl i wr l ∧ hz dl fl i wr l < i + l.length) := by
  induction l generalizing i wr with
  | nil => exact .inl rfl
  | cons x l ih =>
    unfold hz
    split
    · right; simp only [List.length_cons]; omega
    · rcases ih (i + 1) (wrs x wr) with h | h
      · exact .inl h
      · right; simp only [List.length_cons]; omega
theorem runH_stop (h : m.stop ≠ 0) : runH C n m = (m, 0) := by
  cases n with
  | zero => rfl
  | succ n => unfold runH; rw [if_neg h]
theorem runH_go (h : m.stop = 0) : runH C (n + 1) m = ((runH C n (hcyc C m)).1, (runH C n (hcyc C m)).2 + 1) := by
  rw [runH, if_pos h]
/-- A landing alone: what a cycle without code does, but for its stop. -/
theorem cyc_nil (m : M) : cyc [] m = stop (land m) 5 := by unfold cyc; exact if_pos (Nat.zero_le _)
/-- A good state, landed and stopped, is good. -/
theorem Okc.stopped (h : Okc m) {k : Int} (h0 : 0 ≤ k) (h6 : k ≤ 6) : Okc (stop m k) := by
  refine { ok := { h.ok with }, fb := h.fb, s0 := h0, s6 := h6 }
end
end
section
/-- To which registers something flies. -/
def fla (fl : List Fl) : Array Value := ((List.range 16).map fun r => Value.bool (fliesTo fl r)).toArray
theorem fla_at {fl : List Fl} {r : Nat} (h : r < 16) : (fla fl)[r]? = some (.bool (fliesTo fl r)) := by simp [fla, h]
theorem fla_size (fl : List Fl) : (fla fl).size = 16 := by simp [fla]
theorem clo_any (fl : List Fl) (q r : Nat) (w : World) (hb : BK 94 w q (fla fl)) (hr : r < 16) : Calls Tryz.prog 98 #[.int .i64 r, .pointer (some ⟨q, 0, none⟩)] w (BoolPost (fliesTo fl r) w) := by
  have k : w.cell? ⟨q, r, none⟩ = some (.bool (fliesTo fl r)) := (hb.cell r).trans (fla_at hr)
  have i0 : (0 : Int) ≤ (r : Int) := by omega
  have i1 : (r : Int) < 16 := by omega
  clear hb
  generalize fliesTo fl r = b at *
  go_enter Tryz.func98, Tryz.ntmps98
  go_wp2
  go_ret
  exact ⟨rfl, rfl⟩
set_option maxRecDepth 20000 in
set_option maxHeartbeats 2000000 in
theorem ix_any (fl : List Fl) (q : Nat) (l : List Nat) (v : Value) (w : World) (h : Nums w v (l.map Int.ofNat)) (hb : BK 94 w q (fla fl)) (hl : l.length ≤ 100) (hr : ∀ r ∈ l, r < 16) : Calls Tryz.prog 100 #[v, .func (.func 98) #[] #[.pointer (some ⟨q, 0, none⟩)]] w (InPost (l.any (fliesTo fl)) w) := by
  obtain ⟨A, c, rfl, r⟩ := h
  rw [List.length_map] at r ⊢
  have R := Lib.hid r
  have C := Lib.hid (fun r h W (e : W = w) => clo_any fl q r W (by rw [e]; exact hb) (hr r h))
  clear r hb hr
  generalize hn : l.length = n at *
  have HN := Lib.hid hn
  clear hn
  go_enter Tryz.func100, Tryz.ntmps100
  go_wp2
  go_loop [8] (fun o => ∃ i : Nat, i ≤ n ∧ o = .int .i64 i ∧ (l.take i).any (fliesTo fl) = false) (fun o => n - (intOf o).toNat)
  case atStart => exact ⟨0, by omega, rfl, by simp⟩
  case round =>
    obtain ⟨i, hi, rfl, hx⟩ := hrel
    have HX := Lib.hid hx
    clear hx
    by_cases hlt : i < n
    · have hd : decide ((i : Int) < (n : Int)) = true := by simpa using hlt
      have i0 : (0 : Int) ≤ (i : Int) := by omega
      have i1 : (i : Int) < (n : Int) := by omega
      obtain ⟨g, rfl, hg, qq⟩ := R.out (by omega)
      have hil : i < l.length := by have := HN.out; omega
      have k1 := qq i ((l[i] : Nat) : Int) (by rw [List.getElem?_map, at_get hil]; rfl)
      have T := Lib.hid (List.take_succ_eq_append_getElem hil)
      have CC := Lib.hid (fun W e => C.out l[i] (List.getElem_mem hil) W e)
      generalize l[i] = z at k1 T CC
      clear qq hg hil
      cases hz : fliesTo fl z
      · have HZ := Lib.hid hz
        rw [hz] at CC
        clear hz
        go_wp2_with (go_at_call 98; refine (CC.out _ rfl).mono ?_; rintro e w' ⟨rfl, rfl⟩)
        go_round
        case rel => exact ⟨i + 1, by omega, by go_num, by rw [T.out, List.any_append, HX.out]; simp [HZ.out]⟩
        case measure => simp [intOf]; omega
      · have HZ := Lib.hid hz
        rw [hz] at CC
        clear hz
        go_wp2_with (go_at_call 98; refine (CC.out _ rfl).mono ?_; rintro e w' ⟨rfl, rfl⟩)
        go_ret
        refine ⟨i, ?_, rfl, rfl⟩
        have h1 : l.any (fliesTo fl) = true := by
          rw [← List.take_append_drop (i + 1) l, List.any_append, T.out, List.any_append]
          simp [HZ.out]
        rw [h1]
        simp
    · have hd : decide ((i : Int) < (n : Int)) = false := by simp; omega
      go_wp2
      go_ret
      refine ⟨-1, ?_, rfl, rfl⟩
      have h1 := HX.out
      rw [List.take_of_length_le (by have := HN.out; omega)] at h1
      rw [h1]
      rfl
set_option maxRecDepth 20000 in
set_option maxHeartbeats 2000000 in
theorem cont_any (fl : List Fl) (q : Nat) (l : List Nat) (v : Value) (w : World) (h : Nums w v (l.map Int.ofNat)) (hb : BK 94 w q (fla fl)) (hl : l.length ≤ 100) (hr : ∀ r ∈ l, r < 16) : Calls Tryz.prog 83 #[v, .func (.func 98) #[] #[.pointer (some ⟨q, 0, none⟩)]] w (BoolPost (l.any (fliesTo fl)) w) := by
  have P := Lib.hid (fun W (e : W = w) => ix_any fl q l v W (by rw [e]; exact h) (by rw [e]; exact hb) hl hr)
  obtain ⟨A, n, c, rfl⟩ : ∃ A n c, v = .slice A n c := by obtain ⟨A, c, rfl, _⟩ := h; exact ⟨_, _, _, rfl⟩
  clear h hb hl hr
  go_enter Tryz.func83, Tryz.ntmps83
  go_wp2_with fail
  refine (P.out _ rfl).mono ?_
  rintro e w' ⟨z, hz, rfl, rfl⟩
  go_wp2
  go_ret
  exact bool_mk rfl
theorem rds_list (x : In5) : readsL (fm x.o) x.a x.b = (rds x).map Int.ofNat := by
  unfold readsL rds
  cases sa (fm x.o) <;> cases sb (fm x.o) <;> rfl
theorem rds_len (x : In5) : (rds x).length ≤ 100 := by
  unfold rds
  cases sa (fm x.o) <;> cases sb (fm x.o) <;> simp
theorem rds_lt {x : In5} (ha : x.a < 16) (hb : x.b < 16) : ∀ r ∈ rds x, r < 16 := by
  intro r h
  unfold rds at h
  cases sa (fm x.o) <;> cases sb (fm x.o) <;> simp at h <;> omega
set_option maxRecDepth 20000 in
set_option maxHeartbeats 2000000 in
theorem hreads_any (x : In5) (fl : List Fl) (w : World) (v : Vi x) (ha : x.a < 16) (hb : x.b < 16) (T : Tab w) : Calls Tryz.prog 80 #[.agg x.cells, .agg (fla fl)] w (BoolBelow ((rds x).any (fliesTo fl)) w) := by
  have X0 := Lib.hid (show BK 55 ((w.alloc (.cells #[.int .i64 x.o, .int .i64 x.d, .int .i64 x.a, .int .i64 x.b, .int .i64 x.m, .string ByteArray.empty] 55)).alloc (.cells (fla fl) 94)) w.heap.size #[.int .i64 x.o, .int .i64 x.d, .int .i64 x.a, .int .i64 x.b, .int .i64 x.m, .string ByteArray.empty] from BK.alloc (heap_alloc_new w _) _)
  have F0 := Lib.hid (show BK 94 ((w.alloc (.cells #[.int .i64 x.o, .int .i64 x.d, .int .i64 x.a, .int .i64 x.b, .int .i64 x.m, .string ByteArray.empty] 55)).alloc (.cells (fla fl) 94)) (w.heap.size + 1) (fla fl) from BK.new (by simp))
  have G0 := Lib.hid (below_two w (.cells #[.int .i64 x.o, .int .i64 x.d, .int .i64 x.a, .int .i64 x.b, .int .i64 x.m, .string ByteArray.empty] 55) (.cells (fla fl) 94))
  have RD := Lib.hid (fun W (hb : Below w.heap.size w W) => reads_good x.o x.d x.a x.b x.m ByteArray.empty W v.1 (T.below hb) (by decide) v.2)
  have CN := Lib.hid (fun q V W h1 h2 => cont_any fl q (rds x) V W h1 h2 (rds_len x) (rds_lt ha hb))
  have RL := Lib.hid (rds_list x)
  clear v ha hb T
  go_enter Tryz.func80, Tryz.ntmps80
  simp only [In5.cells]
  go_wp2_with fail
  generalize ((w.alloc (.cells #[.int .i64 x.o, .int .i64 x.d, .int .i64 x.a, .int .i64 x.b, .int .i64 x.m, .string ByteArray.empty] 55)).alloc (.cells (fla fl) 94)) = W0 at *
  refine (RD.out _ G0.out).mono ?_
  rintro e w1 ⟨vv, rfl, own, b1⟩
  rw [RL.out] at own
  have F1 := Lib.hid (F0.out.below b1)
  have N1 := Lib.hid (RowAt.of_own own)
  have G1 := Lib.hid (G0.out.trans (b1.mono G0.out.size))
  obtain ⟨A, n, c, rfl⟩ : ∃ A n c, vv = .slice A n c := by obtain ⟨A, c, rfl, _⟩ := RowAt.of_own own; exact ⟨_, _, _, rfl⟩
  clear own b1
  go_wp2_with fail
  refine (CN.out _ _ _ N1.out F1.out).mono ?_
  rintro e w2 ⟨rfl, rfl⟩
  go_wp2
  go_ret
  exact ⟨rfl, G1.out⟩
end
end
section
section
/-- Which registers are written. -/
def wra (wr : List Nat) : Array Value := ((List.range 16).map fun r => Value.bool (wr.contains r)).toArray
theorem wra_at {wr : List Nat} {r : Nat} (h : r < 16) : (wra wr)[r]? = some (.bool (wr.contains r)) := by simp [wra, h]
theorem fla_lit (fl : List Fl) : fla fl = #[.bool (fliesTo fl 0), .bool (fliesTo fl 1), .bool (fliesTo fl 2), .bool (fliesTo fl 3), .bool (fliesTo fl 4), .bool (fliesTo fl 5), .bool (fliesTo fl 6), .bool (fliesTo fl 7), .bool (fliesTo fl 8), .bool (fliesTo fl 9), .bool (fliesTo fl 10), .bool (fliesTo fl 11), .bool (fliesTo fl 12), .bool (fliesTo fl 13), .bool (fliesTo fl 14), .bool (fliesTo fl 15)] := rfl
theorem fla_nil : fla [] = #[.bool false, .bool false, .bool false, .bool false, .bool false, .bool false, .bool false, .bool false, .bool false, .bool false, .bool false, .bool false, .bool false, .bool false, .bool false, .bool false] := rfl
theorem wra_nil : wra [] = #[.bool false, .bool false, .bool false, .bool false, .bool false, .bool false, .bool false, .bool false, .bool false, .bool false, .bool false, .bool false, .bool false, .bool false, .bool false, .bool false] := rfl
theorem fla_set (l : List Fl) (f : Fl) : (fla l).setIfInBounds f.r (.bool true) = fla (l ++ [f]) := by
  apply Array.ext
  · simp [fla]
  · intro i h1 h2
    have hi : i < 16 := by simpa [fla] using h2
    rw [Array.getElem_setIfInBounds (by simpa [fla] using hi)]
    by_cases h : f.r = i
    · subst h; simp [fla, fliesTo]
    · simp [fla, fliesTo, h]
theorem wra_set (l : List Nat) (d : Nat) : (wra l).setIfInBounds d (.bool true) = wra (d :: l) := by
  apply Array.ext
  · simp [wra]
  · intro i h1 h2
    have hi : i < 16 := by simpa [wra] using h2
    rw [Array.getElem_setIfInBounds (by simpa [wra] using hi)]
    by_cases h : d = i
    · subst h; simp [wra]
    · have h3 : ¬ i = d := fun e => h e.symm
      simp [wra, h, h3]
theorem ends_any (n : Nat) (w : World) (h : n < 34) : Calls Tryz.prog 79 #[.int .i64 n] w (BoolPost (decide (28 ≤ n)) w) := by
  by_cases h28 : 28 ≤ n
  · have c1 : decide ((28 : Int) ≤ (n : Int)) = true := by simp; omega
    have c2 : decide ((n : Int) ≤ 33) = true := by simp; omega
    have e : decide (28 ≤ n) = true := by simpa using h28
    rw [e]
    clear h h28 e
    go_enter Tryz.func79, Tryz.ntmps79
    go_wp2
    go_ret
    exact ⟨rfl, rfl⟩
  · have c1 : decide ((28 : Int) ≤ (n : Int)) = false := by simp; omega
    have e : decide (28 ≤ n) = false := by simpa using h28
    rw [e]
    clear h h28 e
    go_enter Tryz.func79, Tryz.ntmps79
    go_wp2
    go_ret
    exact ⟨rfl, rfl⟩
theorem hz_step {dl : Nat} {fl : List Fl} {i : Nat} {wr : List Nat} {b : List In5} (hi : i < b.length) : hz dl fl i wr (b.drop i) = if hz1 dl fl wr (b.getD i zi) then (i : Int) else hz dl fl (i + 1) (wrs (b.getD i zi) wr) (b.drop (i + 1)) := by
  rw [List.drop_eq_getElem_cons hi, List.getD_eq_getElem?_getD, List.getElem?_eq_getElem hi]
  rfl
set_option maxRecDepth 40000 in
set_option maxHeartbeats 8000000 in
theorem hfind_any (b : List In5) (m : M) (sv : Value) (w : World) (hb4 : b.length = 4) (hv : ∀ x ∈ b, Vi x) (h : SV w sv m) (k : Ok m) (T : Tab w) : Calls Tryz.prog 59 #[.agg (bcs (bX b)), sv] w (IntBelow (hz m.dl m.fl 0 [] b) w) := by
  obtain ⟨r, q, i0, oo, z, y, rfl, _, _, _, _, _, a6⟩ := h
  obtain ⟨A, c, rfl, hf⟩ := a6
  have R := Lib.hid hf
  have WF := Lib.hid k.wF
  have NF := Lib.hid k.fl
  generalize m.tk = tk at *
  generalize m.pc = pc at *
  generalize m.stop = stop at *
  generalize m.jp = jp at *
  generalize m.dl = dl at *
  generalize m.fl = fl at *
  generalize hn : fl.length = n at *
  have HN := Lib.hid hn
  have n1000 : n ≤ 1000 := NF.out
  have B4 := Lib.hid hb4
  have VV := Lib.hid hv
  have TT := Lib.hid T
  have tb := T.big
  clear hf hn k hb4 hv T
  have N0 := Lib.hid (show ((((w.alloc (.cells (bcs (bX b)) 58)).alloc (.cells #[r, q, i0, .int .i64 tk, oo, .int .i64 pc, z, .int .i64 stop, .slice A n c, .int .i64 jp, .int .i64 dl] 27)).alloc (.cells #[.bool false, .bool false, .bool false, .bool false, .bool false, .bool false, .bool false, .bool false, .bool false, .bool false, .bool false, .bool false, .bool false, .bool false, .bool false, .bool false] 94)).alloc (.cells #[.bool false, .bool false, .bool false, .bool false, .bool false, .bool false, .bool false, .bool false, .bool false, .bool false, .bool false, .bool false, .bool false, .bool false, .bool false, .bool false] 94)).heap.size = w.heap.size + 4 by simp)
  have G0 := Lib.hid (((below_two w (.cells (bcs (bX b)) 58) (.cells #[r, q, i0, .int .i64 tk, oo, .int .i64 pc, z, .int .i64 stop, .slice A n c, .int .i64 jp, .int .i64 dl] 27)).alloc (by simp; omega) (.cells #[.bool false, .bool false, .bool false, .bool false, .bool false, .bool false, .bool false, .bool false, .bool false, .bool false, .bool false, .bool false, .bool false, .bool false, .bool false, .bool false] 94)).alloc (by simp; omega) (.cells #[.bool false, .bool false, .bool false, .bool false, .bool false, .bool false, .bool false, .bool false, .bool false, .bool false, .bool false, .bool false, .bool false, .bool false, .bool false, .bool false] 94))
  have P0 := Lib.hid (show BK 58 ((((w.alloc (.cells (bcs (bX b)) 58)).alloc (.cells #[r, q, i0, .int .i64 tk, oo, .int .i64 pc, z, .int .i64 stop, .slice A n c, .int .i64 jp, .int .i64 dl] 27)).alloc (.cells #[.bool false, .bool false, .bool false, .bool false, .bool false, .bool false, .bool false, .bool false, .bool false, .bool false, .bool false, .bool false, .bool false, .bool false, .bool false, .bool false] 94)).alloc (.cells #[.bool false, .bool false, .bool false, .bool false, .bool false, .bool false, .bool false, .bool false, .bool false, .bool false, .bool false, .bool false, .bool false, .bool false, .bool false, .bool false] 94)) w.heap.size (bcs (bX b)) from BK.alloc (BK.alloc (BK.alloc (heap_alloc_new w _) _) _) _)
  have P1 := Lib.hid (show BK 27 ((((w.alloc (.cells (bcs (bX b)) 58)).alloc (.cells #[r, q, i0, .int .i64 tk, oo, .int .i64 pc, z, .int .i64 stop, .slice A n c, .int .i64 jp, .int .i64 dl] 27)).alloc (.cells #[.bool false, .bool false, .bool false, .bool false, .bool false, .bool false, .bool false, .bool false, .bool false, .bool false, .bool false, .bool false, .bool false, .bool false, .bool false, .bool false] 94)).alloc (.cells #[.bool false, .bool false, .bool false, .bool false, .bool false, .bool false, .bool false, .bool false, .bool false, .bool false, .bool false, .bool false, .bool false, .bool false, .bool false, .bool false] 94)) (w.heap.size + 1) #[r, q, i0, .int .i64 tk, oo, .int .i64 pc, z, .int .i64 stop, .slice A n c, .int .i64 jp, .int .i64 dl] from BK.alloc (BK.alloc (BK.new (by simp)) _) _)
  have P2 := Lib.hid (show BK 94 ((((w.alloc (.cells (bcs (bX b)) 58)).alloc (.cells #[r, q, i0, .int .i64 tk, oo, .int .i64 pc, z, .int .i64 stop, .slice A n c, .int .i64 jp, .int .i64 dl] 27)).alloc (.cells #[.bool false, .bool false, .bool false, .bool false, .bool false, .bool false, .bool false, .bool false, .bool false, .bool false, .bool false, .bool false, .bool false, .bool false, .bool false, .bool false] 94)).alloc (.cells #[.bool false, .bool false, .bool false, .bool false, .bool false, .bool false, .bool false, .bool false, .bool false, .bool false, .bool false, .bool false, .bool false, .bool false, .bool false, .bool false] 94)) (w.heap.size + 1 + 1) (fla []) from BK.alloc (BK.new (by simp)) _)
  have P3 := Lib.hid (show BK 94 ((((w.alloc (.cells (bcs (bX b)) 58)).alloc (.cells #[r, q, i0, .int .i64 tk, oo, .int .i64 pc, z, .int .i64 stop, .slice A n c, .int .i64 jp, .int .i64 dl] 27)).alloc (.cells #[.bool false, .bool false, .bool false, .bool false, .bool false, .bool false, .bool false, .bool false, .bool false, .bool false, .bool false, .bool false, .bool false, .bool false, .bool false, .bool false] 94)).alloc (.cells #[.bool false, .bool false, .bool false, .bool false, .bool false, .bool false, .bool false, .bool false, .bool false, .bool false, .bool false, .bool false, .bool false, .bool false, .bool false, .bool false] 94)) (w.heap.size + 1 + 1 + 1) (wra []) from BK.new (by simp))
  go_enter Tryz.func59, Tryz.ntmps59
  go_wp2_with fail
  generalize ((((w.alloc (.cells (bcs (bX b)) 58)).alloc (.cells #[r, q, i0, .int .i64 tk, oo, .int .i64 pc, z, .int .i64 stop, .slice A n c, .int .i64 jp, .int .i64 dl] 27)).alloc (.cells #[.bool false, .bool false, .bool false, .bool false, .bool false, .bool false, .bool false, .bool false, .bool false, .bool false, .bool false, .bool false, .bool false, .bool false, .bool false, .bool false] 94)).alloc (.cells #[.bool false, .bool false, .bool false, .bool false, .bool false, .bool false, .bool false, .bool false, .bool false, .bool false, .bool false, .bool false, .bool false, .bool false, .bool false, .bool false] 94)) = W0 at *
  generalize hp1 : w.heap.size + 1 = p1 at *
  generalize hp2 : p1 + 1 = p2 at *
  generalize hp3 : p2 + 1 = p3 at *
  have HP := Lib.hid (show p1 = w.heap.size + 1 ∧ p2 = w.heap.size + 2 ∧ p3 = w.heap.size + 3 by omega)
  clear hp1 hp2 hp3
  go_loopg [16] n (fun gk o wr2 => ∃ i : Nat, i ≤ n ∧ gk = n - i ∧ o = .int .i64 i ∧ Below w.heap.size w wr2 ∧ p3 < wr2.heap.size ∧ BK 58 wr2 w.heap.size (bcs (bX b)) ∧ BK 27 wr2 p1 #[r, q, i0, .int .i64 tk, oo, .int .i64 pc, z, .int .i64 stop, .slice A n c, .int .i64 jp, .int .i64 dl] ∧ BK 94 wr2 p2 (fla (fl.take i)) ∧ BK 94 wr2 p3 (wra []))
  case atStart => exact ⟨0, by omega, rfl, rfl, G0.out, by have := N0.out; have := HP.out; omega, P0.out, P1.out, P2.out, P3.out⟩
  case round =>
    obtain ⟨i, hi, rfl, rfl, hb, hz, h0, h1, h2, h3⟩ := hrel
    have HB := Lib.hid hb
    have HZ := Lib.hid hz
    have Q0 := Lib.hid h0
    have Q1 := Lib.hid h1
    have Q2 := Lib.hid h2
    have Q3 := Lib.hid h3
    have hl2 := h2.lt
    clear hb hz h0 h1 h2 h3 P0 P1 P2 P3 G0 N0
    by_cases hlt : i < n
    · have hd : decide ((i : Int) < (n : Int)) = true := by simpa using hlt
      have ii0 : (0 : Int) ≤ (i : Int) := by omega
      have ii1 : (i : Int) < (n : Int) := by omega
      have hil : i < fl.length := by have := HN.out; omega
      obtain ⟨ad, rfl, hg, q0, q1, q2⟩ := RdF.at_ (by rw [HN.out]; exact R.out) hil
      have k0 := (HB.out.cell (p := ad.add (i * 3)) (by rw [block_add]; exact hg)).trans q0
      have k1 := (HB.out.cell (p := ⟨(ad.add (i * 3)).block, (ad.add (i * 3)).off + 1, none⟩) (by show (ad.add (i * 3)).block < _; rw [block_add]; exact hg)).trans q1
      have k2 := (HB.out.cell (p := ⟨(ad.add (i * 3)).block, (ad.add (i * 3)).off + 2, none⟩) (by show (ad.add (i * 3)).block < _; rw [block_add]; exact hg)).trans q2
      have TK := Lib.hid (List.take_succ_eq_append_getElem hil)
      have hr := (WF.out fl[i] (List.getElem_mem hil)).1
      generalize fl[i] = f at k0 k1 k2 TK hr
      have r0 : (0 : Int) ≤ (f.r : Int) := by omega
      have r1 : (f.r : Int) < 16 := by omega
      have kf : wr.cell? ⟨p2, f.r, none⟩ = some (.bool (fliesTo (fl.take i) f.r)) := (Q2.out.cell f.r).trans (fla_at hr)
      have kz := Q2.out.frozen f.r
      have S0 := Lib.hid (show BK 58 ((wr.setCell ⟨p2, f.r, none⟩ (.bool true)).alloc (.cells #[.int .i64 f.r, .int .u32 f.v, .int .i64 f.k] 71)) w.heap.size (bcs (bX b)) from (Q0.out.grown (grown_set _ p2 f.r _) (by intro e; injection e with e; have := HP.out; omega)).alloc _)
      have S1 := Lib.hid (show BK 27 ((wr.setCell ⟨p2, f.r, none⟩ (.bool true)).alloc (.cells #[.int .i64 f.r, .int .u32 f.v, .int .i64 f.k] 71)) p1 _ from (Q1.out.grown (grown_set _ p2 f.r _) (by intro e; injection e with e; have := HP.out; omega)).alloc _)
      have S3 := Lib.hid (show BK 94 ((wr.setCell ⟨p2, f.r, none⟩ (.bool true)).alloc (.cells #[.int .i64 f.r, .int .u32 f.v, .int .i64 f.k] 71)) p3 (wra []) from (Q3.out.grown (grown_set _ p2 f.r _) (by intro e; injection e with e; have := HP.out; omega)).alloc _)
      have S2 := Lib.hid (show BK 94 ((wr.setCell ⟨p2, f.r, none⟩ (.bool true)).alloc (.cells #[.int .i64 f.r, .int .u32 f.v, .int .i64 f.k] 71)) p2 (fla (fl.take (i + 1))) by rw [TK.out, ← fla_set]; exact (Q2.out.set f.r _).alloc _)
      have SB := Lib.hid (show Below w.heap.size w ((wr.setCell ⟨p2, f.r, none⟩ (.bool true)).alloc (.cells #[.int .i64 f.r, .int .u32 f.v, .int .i64 f.k] 71)) from (HB.out.trans (gb_below (grown_set _ p2 f.r _) (by have := HP.out; omega) HB.out.size)).alloc (by have := HB.out.size; simp; omega) _)
      have SZ := Lib.hid (show p3 < ((wr.setCell ⟨p2, f.r, none⟩ (.bool true)).alloc (.cells #[.int .i64 f.r, .int .u32 f.v, .int .i64 f.k] 71)).heap.size by have := HZ.out; simp; omega)
      clear q0 q1 q2 hg hil
      go_wp2_with fail
      go_roundg (n - (i + 1))
      case measure => omega
      case rel => exact ⟨i + 1, by omega, rfl, by go_num, SB.out, SZ.out, S0.out, S1.out, S2.out, S3.out⟩
    · have hd : decide ((i : Int) < (n : Int)) = false := by simp; omega
      have hin : n = i := by omega
      subst hin
      rw [List.take_of_length_le (by have := HN.out; omega)] at Q2
      have HQ2 := Q2
      have SZ2 := Lib.hid (rfl : True = True)
      go_wp2_with ((with_reducible refine wpList_load_bl (op := ⟨some 24, .load 58 _, _, _, _, none⟩) rfl _ rfl w.heap.size (bcs (bX b)) ?lx ?lb rfl ?_); (case lx => rfl); (case lb => exact Q0.out))
      clear SZ2 HQ2
      go_loopg [25] 4 (fun gk o wr2 => ∃ (i : Nat) (wl : List Nat), i ≤ 4 ∧ gk = 4 - i ∧ o = .int .i64 i ∧ Below w.heap.size w wr2 ∧ p3 < wr2.heap.size ∧ BK 27 wr2 p1 #[r, q, i0, .int .i64 tk, oo, .int .i64 pc, z, .int .i64 stop, .slice A n c, .int .i64 jp, .int .i64 dl] ∧ BK 94 wr2 p2 (fla fl) ∧ BK 94 wr2 p3 (wra wl) ∧ hz dl fl 0 [] b = hz dl fl i wl (b.drop i))
      case atStart => exact ⟨0, [], by omega, rfl, rfl, HB.out, HZ.out, Q1.out, Q2.out, Q3.out, rfl⟩
      case round =>
        clear Q0 Q1 Q2 Q3 HB HZ hl2
        obtain ⟨i, wl, hi, rfl, rfl, hb, hz9, h1, h2, h3, he⟩ := hrel
        have HB := Lib.hid hb
        have HZ := Lib.hid hz9
        have Q1 := Lib.hid h1
        have Q2 := Lib.hid h2
        have Q3 := Lib.hid h3
        have HE := Lib.hid he
        have hl2 := h2.lt
        have hl1 := h1.lt
        have wz := hb.size
        clear hb hz9 h1 h2 h3 he
        by_cases hlt : i < 4
        · have hd : decide ((i : Int) < 4) = true := by simp; omega
          have hix : ∀ W, (Instr.index 58 (.agg (bcs (bX b))) (.int .i64 (i : Nat))).run Tryz.prog W = .ok (.agg #[.int .i64 (b.getD i zi).o, .int .i64 (b.getD i zi).d, .int .i64 (b.getD i zi).a, .int .i64 (b.getD i zi).b, .int .i64 (b.getD i zi).m, .string ⟨#[]⟩]) W := fun W => index_x (bX b) i hlt W
          have ST := Lib.hid (hz_step (dl := dl) (fl := fl) (wr := wl) (show i < b.length by rw [B4.out]; exact hlt))
          have VX := Lib.hid (VV.out (b.getD i zi) (by rw [List.getD_eq_getElem?_getD, List.getElem?_eq_getElem (show i < b.length by rw [B4.out]; exact hlt)]; exact List.getElem_mem _))
          generalize b.getD i zi = x at hix ST VX
          have TX := Lib.hid (tab_below TT.out HB.out (by omega))
          have EN := Lib.hid (fun W => ends_any x.o W VX.out.o)
          have x1 := VX.out.a
          have x2 := VX.out.b
          have x3 := VX.out.d
          have f0 : wr.cell? ⟨p2, 0, none⟩ = some (.bool (fliesTo fl 0)) := (Q2.out.cell 0).trans (fla_at (by decide))
          have f1 : wr.cell? ⟨p2, 1, none⟩ = some (.bool (fliesTo fl 1)) := (Q2.out.cell 1).trans (fla_at (by decide))
          have f2 : wr.cell? ⟨p2, 2, none⟩ = some (.bool (fliesTo fl 2)) := (Q2.out.cell 2).trans (fla_at (by decide))
          have f3 : wr.cell? ⟨p2, 3, none⟩ = some (.bool (fliesTo fl 3)) := (Q2.out.cell 3).trans (fla_at (by decide))
          have f4 : wr.cell? ⟨p2, 4, none⟩ = some (.bool (fliesTo fl 4)) := (Q2.out.cell 4).trans (fla_at (by decide))
          have f5 : wr.cell? ⟨p2, 5, none⟩ = some (.bool (fliesTo fl 5)) := (Q2.out.cell 5).trans (fla_at (by decide))
          have f6 : wr.cell? ⟨p2, 6, none⟩ = some (.bool (fliesTo fl 6)) := (Q2.out.cell 6).trans (fla_at (by decide))
          have f7 : wr.cell? ⟨p2, 7, none⟩ = some (.bool (fliesTo fl 7)) := (Q2.out.cell 7).trans (fla_at (by decide))
          have f8 : wr.cell? ⟨p2, 8, none⟩ = some (.bool (fliesTo fl 8)) := (Q2.out.cell 8).trans (fla_at (by decide))
          have f9 : wr.cell? ⟨p2, 9, none⟩ = some (.bool (fliesTo fl 9)) := (Q2.out.cell 9).trans (fla_at (by decide))
          have f10 : wr.cell? ⟨p2, 10, none⟩ = some (.bool (fliesTo fl 10)) := (Q2.out.cell 10).trans (fla_at (by decide))
          have f11 : wr.cell? ⟨p2, 11, none⟩ = some (.bool (fliesTo fl 11)) := (Q2.out.cell 11).trans (fla_at (by decide))
          have f12 : wr.cell? ⟨p2, 12, none⟩ = some (.bool (fliesTo fl 12)) := (Q2.out.cell 12).trans (fla_at (by decide))
          have f13 : wr.cell? ⟨p2, 13, none⟩ = some (.bool (fliesTo fl 13)) := (Q2.out.cell 13).trans (fla_at (by decide))
          have f14 : wr.cell? ⟨p2, 14, none⟩ = some (.bool (fliesTo fl 14)) := (Q2.out.cell 14).trans (fla_at (by decide))
          have f15 : wr.cell? ⟨p2, 15, none⟩ = some (.bool (fliesTo fl 15)) := (Q2.out.cell 15).trans (fla_at (by decide))
          have d10 : wr.cell? ⟨p1, 10, none⟩ = some (.int .i64 dl) := Q1.out.cell 10
          have HR := Lib.hid (fun W (T : Tab W) => show Calls Tryz.prog 80 #[.agg #[.int .i64 x.o, .int .i64 x.d, .int .i64 x.a, .int .i64 x.b, .int .i64 x.m, .string ⟨#[]⟩], .agg #[.bool (fliesTo fl 0), .bool (fliesTo fl 1), .bool (fliesTo fl 2), .bool (fliesTo fl 3), .bool (fliesTo fl 4), .bool (fliesTo fl 5), .bool (fliesTo fl 6), .bool (fliesTo fl 7), .bool (fliesTo fl 8), .bool (fliesTo fl 9), .bool (fliesTo fl 10), .bool (fliesTo fl 11), .bool (fliesTo fl 12), .bool (fliesTo fl 13), .bool (fliesTo fl 14), .bool (fliesTo fl 15)]] W (BoolBelow ((rds x).any (fliesTo fl)) W) from hreads_any x fl W VX.out x1 x2 T)
          have WN := Lib.hid (fun W (T : Tab W) (h : sd (fm x.o) = false) => show Calls Tryz.prog 81 #[.agg #[.int .i64 x.o, .int .i64 x.d, .int .i64 x.a, .int .i64 x.b, .int .i64 x.m, .string ⟨#[]⟩]] W (TwoBelow 0 9 W) from writes_no x.o x.d x.a x.b x.m ⟨#[]⟩ W VX.out.o T (by decide) VX.out.ins h)
          have WD := Lib.hid (fun W (T : Tab W) (h : sd (fm x.o) = true) => show Calls Tryz.prog 81 #[.agg #[.int .i64 x.o, .int .i64 x.d, .int .i64 x.a, .int .i64 x.b, .int .i64 x.m, .string ⟨#[]⟩]] W (TwoBelow x.d 0 W) from writes_d x.o x.d x.a x.b x.m ⟨#[]⟩ W VX.out.o T (by decide) VX.out.ins h)
          by_cases hE : 28 ≤ x.o ∧ 0 < dl
          · have RT := Lib.hid (show hz dl fl 0 [] b = i by rw [HE.out, ST.out, if_pos (by unfold hz1; simp [hE])])
            have dp : 0 < dl := hE.2
            have di : (0 : Int) < (dl : Int) := by omega
            rw [show decide (28 ≤ x.o) = true by simpa using hE.1] at EN
            clear hE
            go_wp2_with (go_at_call 79; refine (EN.out _).mono ?_; rintro e w' ⟨rfl, rfl⟩)
            go_ret
            exact intb_mk RT.out.symm (HB.out.alloc wz _)
          have RTf := Lib.hid (show hz1 dl fl wl x = true → hz dl fl 0 [] b = i from fun h => by rw [HE.out, ST.out, if_pos h])
          have NXf := Lib.hid (show hz1 dl fl wl x = false → hz dl fl 0 [] b = hz dl fl (i + 1) (wrs x wl) (b.drop (i + 1)) from fun h => by rw [HE.out, ST.out, if_neg (by rw [h]; exact Bool.false_ne_true)])
          have E0 := Lib.hid (show (decide (28 ≤ x.o) && decide (0 < dl)) = false by rw [← Bool.decide_and]; exact decide_eq_false hE)
          have hcase : decide (28 ≤ x.o) = false ∨ (decide (28 ≤ x.o) = true ∧ dl = 0) := by
            by_cases h28 : 28 ≤ x.o
            · right
              refine ⟨by simpa using h28, ?_⟩
              have : ¬ 0 < dl := fun h => hE ⟨h28, h⟩
              omega
            · left; simpa using h28
          clear hE
          rcases hcase with hc | ⟨hc, rfl⟩
          all_goals
            rw [hc] at EN
            clear hc
            cases hrr : (rds x).any (fliesTo fl)
            · rw [hrr] at HR
              have RR := Lib.hid hrr
              clear hrr
              go_wp2_with (go_at_call 79; refine (EN.out _).mono ?_; rintro e w' ⟨rfl, rfl⟩)
              clear f0 f1 f2 f3 f4 f5 f6 f7 f8 f9 f10 f11 f12 f13 f14 f15 d10
              refine (HR.out _ (TX.out.alloc _)).mono ?_
              rintro e w5 ⟨rfl, b5⟩
              obtain ⟨qq, hz5, hB⟩ := box_cells b5
              have k0 := qq 0
              have k1 := qq 1
              have k2 := qq 2
              have k3 := qq 3
              have k4 := qq 4
              have k5 := qq 5
              have D5 := Lib.hid hB
              have T5 := Lib.hid (tab_below TT.out (HB.out.trans (hB.mono wz)) (by omega))
              clear b5 qq hB hz5
              cases hsd : sd (fm x.o)
              · have NX := Lib.hid (NXf.out (by unfold hz1; rw [E0.out, RR.out, hsd]; simp))
                rw [show wrs x wl = wl by unfold wrs; rw [hsd]; rfl] at NX
                have WW := Lib.hid (fun W T => WN.out W T hsd)
                clear hsd
                go_wp2_with fail
                refine (WW.out _ T5.out).mono ?_
                rintro e w6 ⟨rfl, b6⟩
                have D6 := Lib.hid (D5.out.trans (b6.mono D5.out.size))
                clear b6 k0 k1 k2 k3 k4 k5
                go_wp2_with fail
                go_roundg (4 - (i + 1))
                case measure => omega
                case rel => exact ⟨i + 1, wl, by omega, rfl, by go_num, HB.out.trans (D6.out.mono wz), by have := D6.out.size; have := HZ.out; omega, Q1.out.below D6.out, Q2.out.below D6.out, Q3.out.below D6.out, NX.out⟩
              · have WW := Lib.hid (fun W T => WD.out W T hsd)
                have HSD := Lib.hid hsd
                clear hsd
                have j0 : (0 : Int) ≤ (x.d : Int) := by omega
                have j1 : (x.d : Int) < 16 := by omega
                cases h2 : fliesTo fl x.d
                · cases h3 : wl.contains x.d
                  · have NX := Lib.hid (NXf.out (by unfold hz1; rw [E0.out, RR.out, h2, h3]; simp))
                    rw [show wrs x wl = x.d :: wl by unfold wrs; rw [HSD.out]; rfl] at NX
                    have V2 := Lib.hid h2
                    have V3 := Lib.hid h3
                    clear h2 h3
                    go_wp2_with fail
                    refine (WW.out _ T5.out).mono ?_
                    rintro e w6 ⟨rfl, b6⟩
                    have D6 := Lib.hid (D5.out.trans (b6.mono D5.out.size))
                    have g2 : w6.cell? ⟨p2, x.d, none⟩ = some (.bool false) := ((Q2.out.below D6.out).cell x.d).trans ((fla_at x3).trans (by rw [V2.out]))
                    have g3 : w6.cell? ⟨p3, x.d, none⟩ = some (.bool false) := ((Q3.out.below D6.out).cell x.d).trans ((wra_at x3).trans (by rw [V3.out]))
                    have g4 := (Q3.out.below D6.out).frozen x.d
                    have GR := Lib.hid (grown_set w6 p3 x.d (.bool true))
                    have S3 := Lib.hid (show BK 94 (w6.setCell ⟨p3, x.d, none⟩ (.bool true)) p3 (wra (x.d :: wl)) by rw [← wra_set]; exact (Q3.out.below D6.out).set x.d _)
                    have S1 := Lib.hid ((Q1.out.below D6.out).grown GR.out (by intro e; injection e with e; have := HP.out; omega))
                    have S2 := Lib.hid ((Q2.out.below D6.out).grown GR.out (by intro e; injection e with e; have := HP.out; omega))
                    have SB := Lib.hid (HB.out.trans ((D6.out.mono wz).trans (gb_below (B := w.heap.size) GR.out (by have := HP.out; omega) (by have := D6.out.size; omega))))
                    have SZ := Lib.hid (show p3 < (w6.setCell ⟨p3, x.d, none⟩ (.bool true)).heap.size from S3.out.lt)
                    clear b6 k0 k1 k2 k3 k4 k5
                    go_wp2_with fail
                    go_roundg (4 - (i + 1))
                    case measure => omega
                    case rel => exact ⟨i + 1, x.d :: wl, by omega, rfl, by go_num, SB.out, SZ.out, S1.out, S2.out, S3.out, NX.out⟩
                  · have RT := Lib.hid (RTf.out (by unfold hz1; rw [HSD.out, h3]; simp))
                    have V2 := Lib.hid h2
                    have V3 := Lib.hid h3
                    clear h2 h3
                    go_wp2_with fail
                    refine (WW.out _ T5.out).mono ?_
                    rintro e w6 ⟨rfl, b6⟩
                    have D6 := Lib.hid (D5.out.trans (b6.mono D5.out.size))
                    have g2 : w6.cell? ⟨p2, x.d, none⟩ = some (.bool false) := ((Q2.out.below D6.out).cell x.d).trans ((fla_at x3).trans (by rw [V2.out]))
                    have g3 : w6.cell? ⟨p3, x.d, none⟩ = some (.bool true) := ((Q3.out.below D6.out).cell x.d).trans ((wra_at x3).trans (by rw [V3.out]))
                    clear b6 k0 k1 k2 k3 k4 k5
                    go_wp2_with fail
                    go_ret
                    exact intb_mk RT.out.symm (HB.out.trans (D6.out.mono wz))
                · have RT := Lib.hid (RTf.out (by unfold hz1; rw [HSD.out, h2]; simp))
                  have V2 := Lib.hid h2
                  clear h2
                  go_wp2_with fail
                  refine (WW.out _ T5.out).mono ?_
                  rintro e w6 ⟨rfl, b6⟩
                  have D6 := Lib.hid (D5.out.trans (b6.mono D5.out.size))
                  have g2 : w6.cell? ⟨p2, x.d, none⟩ = some (.bool true) := ((Q2.out.below D6.out).cell x.d).trans ((fla_at x3).trans (by rw [V2.out]))
                  clear b6 k0 k1 k2 k3 k4 k5
                  go_wp2_with fail
                  go_ret
                  exact intb_mk RT.out.symm (HB.out.trans (D6.out.mono wz))
            · rw [hrr] at HR
              have RT := Lib.hid (RTf.out (by unfold hz1; rw [hrr]; simp))
              clear hrr
              go_wp2_with (go_at_call 79; refine (EN.out _).mono ?_; rintro e w' ⟨rfl, rfl⟩)
              clear f0 f1 f2 f3 f4 f5 f6 f7 f8 f9 f10 f11 f12 f13 f14 f15 d10
              refine (HR.out _ (TX.out.alloc _)).mono ?_
              rintro e w5 ⟨rfl, b5⟩
              have D5 := Lib.hid ((below_new wr _).trans (b5.mono (by simp)))
              clear b5
              go_wp2_with fail
              go_ret
              exact intb_mk RT.out.symm (HB.out.trans (D5.out.mono wz))
        · have hd : decide ((i : Int) < 4) = false := by simp; omega
          obtain rfl : i = 4 := by omega
          have ED := Lib.hid (show hz dl fl 0 [] b = -1 by rw [HE.out, List.drop_of_length_le (by rw [B4.out]; omega)]; rfl)
          go_wp2_with fail
          go_ret
          exact intb_mk ED.out.symm HB.out
end
section
theorem rends_any (n : Nat) (w : World) (h : n < 34) : Calls Tryz.prog 61 #[.int .i64 n] w (BoolPost (decide (28 ≤ n)) w) := by
  by_cases h28 : 28 ≤ n
  · have BT := Lib.hid (fun W => between_yes n 28 33 W (by omega) (by omega))
    rw [show decide (28 ≤ n) = true by simpa using h28]
    clear h h28
    go_enter Tryz.func61, Tryz.ntmps61
    go_wp2_with (go_at_call 34; refine (BT.out _).mono ?_; rintro e w' ⟨rfl, rfl⟩)
    go_ret
    exact ⟨rfl, rfl⟩
  · have BT := Lib.hid (fun W => between_no n 28 33 W (by omega))
    rw [show decide (28 ≤ n) = false by simpa using h28]
    clear h h28
    go_enter Tryz.func61, Tryz.ntmps61
    go_wp2_with (go_at_call 34; refine (BT.out _).mono ?_; rintro e w' ⟨rfl, rfl⟩)
    go_ret
    exact ⟨rfl, rfl⟩
theorem mem_busy (fl : List Fl) (d : Nat) : decide (((d : Nat) : Int) ∈ fl.map fun f => (f.r : Int)) = fliesTo fl d := by
  unfold fliesTo
  rw [Bool.eq_iff_iff]
  simp only [decide_eq_true_eq, List.mem_map, List.any_eq_true, beq_iff_eq]
  constructor
  · rintro ⟨f, hf, he⟩; exact ⟨f, hf, by omega⟩
  · rintro ⟨f, hf, he⟩; exact ⟨f, hf, by omega⟩
theorem mem_wrote (wl : List Nat) (d : Nat) : decide (((d : Nat) : Int) ∈ wl.reverse.map Int.ofNat) = wl.contains d := by
  rw [Bool.eq_iff_iff]
  simp only [decide_eq_true_eq, List.mem_map, List.mem_reverse, List.contains_iff_mem]
  constructor
  · rintro ⟨f, hf, he⟩
    have h1 : ((f : Nat) : Int) = (d : Int) := he
    have : f = d := by omega
    rw [← this]; exact hf
  · intro h; exact ⟨d, h, rfl⟩
theorem hz_step2 {dl : Nat} {fl : List Fl} {i : Nat} {wr : List Nat} {b : List In5} (hi : i < b.length) : hz dl fl i wr (b.drop i) = if hz1 dl fl wr (b.getD i zi) then (i : Int) else hz dl fl (i + 1) (wrs (b.getD i zi) wr) (b.drop (i + 1)) := by
  rw [List.drop_eq_getElem_cons hi, List.getD_eq_getElem?_getD, List.getElem?_eq_getElem hi]
  rfl
theorem own_form {w : World} {B n : Nat} {l : Value} {xs : List Value} (h : w.ownsRow B 3 1 l n xs) : ∃ va cc, l = .slice va n cc := by
  rcases h.2 with ⟨hv, hz⟩ | ⟨g, cap, cur, hv, _⟩
  · exact ⟨none, 0, by rw [hv, hz]⟩
  · exact ⟨_, _, hv⟩
theorem own_len {w : World} {B n k : Nat} {l : Value} {xs : List Value} (h : w.ownsRow B 3 1 l n xs) (e : n = k) : w.ownsRow B 3 1 l k xs := e ▸ h
set_option maxRecDepth 40000 in
set_option maxHeartbeats 8000000 in
theorem pfind_any (C : List (List In5)) (m : M) (pv sv : Value) (w : World) (hp : RdC w pv C) (v : Vc C) (h : SV w sv m) (hfl : m.fl.length ≤ 100) (hpc : m.pc ≤ 1024) : Calls Tryz.prog 52 #[pv, sv] w (IntBelow (fnd C m) w) := by
  obtain ⟨r, q, i0, oo, z, y, rfl, _, _, _, _, _, a6⟩ := h
  obtain ⟨A6, c6, rfl, hf⟩ := a6
  obtain ⟨A, cp, rfl, hC⟩ := hp
  have R := Lib.hid hf
  have vl := v.1
  have VV := Lib.hid v
  have CD := Lib.hid hC
  have FN := Lib.hid (show fnd C m = if C.length ≤ m.pc then -1 else hz m.dl m.fl 0 [] (C.getD m.pc []) from rfl)
  clear hf hC v
  generalize fnd C m = res at *
  generalize m.tk = tk at *
  generalize m.pc = pc at *
  generalize m.stop = stop at *
  generalize m.jp = jp at *
  generalize m.dl = dl at *
  generalize m.fl = fl at *
  generalize hn : fl.length = n at *
  have HN := Lib.hid hn
  clear hn
  by_cases hge : C.length ≤ pc
  · have RS := Lib.hid (show res = -1 by rw [FN.out, if_pos hge])
    generalize C.length = pl at *
    have g1 : decide ((pl : Int) ≤ (pc : Int)) = true := by simp; omega
    go_enter Tryz.func52, Tryz.ntmps52
    go_wp2_with fail
    go_ret
    exact intb_mk RS.out.symm (below_new _ _)
  have hlt0 : pc < C.length := by omega
  have RS := Lib.hid (show res = hz dl fl 0 [] (C.getD pc []) by rw [FN.out, if_neg hge])
  have V4 := Lib.hid (VV.out.at_ hlt0)
  obtain ⟨ad, rfl, hbl, hbx⟩ := CD.out pc hlt0
  have HX := Lib.hid hbx
  have HXL := Lib.hid hbl
  clear FN VV CD hbx hbl
  generalize C.getD pc [] = b at *
  generalize C.length = pl at *
  have g1 : decide ((pl : Int) ≤ (pc : Int)) = false := by simp; omega
  have g2 : (0 : Int) ≤ (pc : Int) := by omega
  have g3 : (pc : Int) < (pl : Int) := by omega
  clear hlt0
  have P1 := Lib.hid (show BK 27 (w.alloc (.cells #[r, q, i0, .int .i64 tk, oo, .int .i64 pc, z, .int .i64 stop, .slice A6 n c6, .int .i64 jp, .int .i64 dl] 27)) w.heap.size #[r, q, i0, .int .i64 tk, oo, .int .i64 pc, z, .int .i64 stop, .slice A6 n c6, .int .i64 jp, .int .i64 dl] from heap_alloc_new w _)
  have G0 := Lib.hid (below_new w (.cells #[r, q, i0, .int .i64 tk, oo, .int .i64 pc, z, .int .i64 stop, .slice A6 n c6, .int .i64 jp, .int .i64 dl] 27))
  have N0 := Lib.hid (show (w.alloc (.cells #[r, q, i0, .int .i64 tk, oo, .int .i64 pc, z, .int .i64 stop, .slice A6 n c6, .int .i64 jp, .int .i64 dl] 27)).heap.size = w.heap.size + 1 by simp)
  go_enter Tryz.func52, Tryz.ntmps52
  go_wp2_with fail
  generalize w.alloc (.cells #[r, q, i0, .int .i64 tk, oo, .int .i64 pc, z, .int .i64 stop, .slice A6 n c6, .int .i64 jp, .int .i64 dl] 27) = W0 at *
  go_loopg [5, 6] n (fun gk l o wr2 => ∃ (i : Nat) (va : Option Addr) (cc : Nat), i ≤ n ∧ gk = n - i ∧ o = .int .i64 i ∧ l = .slice va i cc ∧ wr2.ownsRow (w.heap.size + 1) 3 1 (.slice va i cc) i (((fl.take i).map fun f => (f.r : Int)).map (Value.int .i64)) ∧ Below w.heap.size w wr2 ∧ w.heap.size + 1 ≤ wr2.heap.size ∧ BK 27 wr2 w.heap.size #[r, q, i0, .int .i64 tk, oo, .int .i64 pc, z, .int .i64 stop, .slice A6 n c6, .int .i64 jp, .int .i64 dl])
  case atStart => exact ⟨0, none, 0, by omega, rfl, rfl, rfl, World.ownsRow_nil _ _ _ _, G0.out, by have := N0.out; omega, P1.out⟩
  case round =>
    obtain ⟨i, va, cc, hi, rfl, rfl, rfl, hown, hb, hz9, h1⟩ := hrel
    have OWN := Lib.hid hown
    have HB := Lib.hid hb
    have HZ := Lib.hid hz9
    have Q1 := Lib.hid h1
    have s8 : wr.cell? ⟨w.heap.size, 8, none⟩ = some (.slice A6 n c6) := h1.cell 8
    clear hown hb hz9 h1 P1 G0 N0
    by_cases hlt : i < n
    · have hd : decide ((i : Int) < (n : Int)) = true := by simpa using hlt
      have ii0 : (0 : Int) ≤ (i : Int) := by omega
      have ii1 : (i : Int) < (n : Int) := by omega
      have hil : i < fl.length := by have := HN.out; omega
      obtain ⟨ad6, rfl, hg, q0, q1, q2⟩ := RdF.at_ (by rw [HN.out]; exact R.out) hil
      have k0 := (HB.out.cell (p := ad6.add (i * 3)) (by rw [block_add]; exact hg)).trans q0
      have TK := Lib.hid (List.take_succ_eq_append_getElem hil)
      generalize fl[i] = f at k0 TK
      clear q0 q1 q2 hg hil
      go_wp2_with (at_builtin; refine app_one 24 3 8 (.int .i64 0) Tryz.info3 rfl (by decide) Tryz.underlying24 rfl _ _ rfl wr (w.heap.size + 1) i (.slice va i cc) (.int .i64 f.r) _ rfl OWN.out (by omega) rfl wr.heap.size rfl rfl HZ.out ?_; intro v9 w9 own9 hg9; obtain ⟨va9, cc9, rfl⟩ := own_form own9; have O9 := Lib.hid own9; have B9 := Lib.hid (app_below OWN.out hg9 HZ.out); clear own9 hg9)
      go_roundg (n - (i + 1))
      case measure => omega
      case rel => exact ⟨i + 1, va9, cc9, by omega, rfl, by go_num, rfl, by rw [TK.out, List.map_append, List.map_append]; exact O9.out, HB.out.trans (B9.out.mono (by omega)), by have := B9.out.size; have := HZ.out; omega, Q1.out.belowB B9.out (by omega)⟩
    · have hd : decide ((i : Int) < (n : Int)) = false := by simp; omega
      have hin : n = i := by omega
      subst hin
      have BUSY := Lib.hid (show Nums wr (.slice va n cc) (fl.map fun f => (f.r : Int)) from RowAt.of_own (by have := OWN.out; rw [List.take_of_length_le (by have := HN.out; omega)] at this; exact own_len this (by rw [List.length_map, HN.out])))
      have HX1 := Lib.hid (HX.out.keep HB.out (by rw [block_add]; exact HXL.out))
      have s5 : wr.cell? ⟨w.heap.size, 5, none⟩ = some (.int .i64 pc) := Q1.out.cell 5
      have wlr := Q1.out.lt
      go_wp2_with (first | ((with_reducible refine wpList_load_at (op := ⟨_, .load 58 _, _, _, _, none⟩) rfl _ rfl (ad.add (pc * 24)) (bX b) ?hx2 HX1.out ?_); (case hx2 => rfl)) | ((with_reducible refine wpList_store_bl (op := ⟨none, .store 58 _ _, _, _, _, none⟩) rfl _ _ rfl wr.heap.size ZB (bcs (bX b)) ?sx ?sy ?sb ?s1 ?s2 ?s3 ?_); (case sx => rfl); (case sy => rfl); (case sb => exact heap_alloc_new _ _); (case s1 => rfl); (case s2 => rfl); (case s3 => exact bcs_one _)))
      intro W1 hbl hg hsz
      have D1 := Lib.hid ((below_new wr (.cells ZB 58)).grown hg (by simp) (by intro k hk; cases hk; omega))
      have BLb := Lib.hid hbl
      have ST1 := Lib.hid (Q1.out.below D1.out)
      have A1 := Lib.hid (BUSY.out.below D1.out)
      have HB1 := Lib.hid (HB.out.trans (D1.out.mono HB.out.size))
      have pl0 := hbl.lt
      have wl0 := ST1.out.lt
      have bz1 : w.heap.size ≤ W1.heap.size := HB1.out.size
      clear hbl hg hsz D1 Q1 BUSY HB OWN HZ s8 s5 HX1 wlr
      generalize wr.heap.size = pb at *
      go_wp2_with fail
      go_loopg [8, 9] 4 (fun gk l o wr2 => ∃ (i : Nat) (wl : List Nat) (va8 : Option Addr) (cc8 : Nat), i ≤ 4 ∧ gk = 4 - i ∧ o = .int .i64 i ∧ l = .slice va8 wl.length cc8 ∧ wl.length ≤ i ∧ wr2.ownsRow W1.heap.size 3 1 (.slice va8 wl.length cc8) wl.length ((wl.reverse.map Int.ofNat).map (Value.int .i64)) ∧ Below W1.heap.size W1 wr2 ∧ hz dl fl 0 [] b = hz dl fl i wl (b.drop i))
      case atStart => exact ⟨0, [], none, 0, by omega, rfl, rfl, rfl, Nat.le_refl _, World.ownsRow_nil _ _ _ _, Below.refl _ _, rfl⟩
      case round =>
        obtain ⟨i, wl, va8, cc8, hi, rfl, rfl, rfl, hwl, hown, hb, he⟩ := hrel
        have OW := Lib.hid hown
        have DW := Lib.hid hb
        have HE := Lib.hid he
        have wzw := hb.size
        clear hown hb he
        by_cases hlt : i < 4
        · have hd : decide ((i : Int) < 4) = true := by simp; omega
          have ii0 : (0 : Int) ≤ (i : Int) := by omega
          have ii1 : (i : Int) < 4 := by omega
          have hib : i < b.length := by rw [V4.out.1]; exact hlt
          obtain ⟨x0, x1, x2, x3, x4, x5⟩ := show wr.cell? ⟨pb, i * 6, none⟩ = some (.int .i64 (b.getD i zi).o) ∧ wr.cell? ⟨pb, i * 6 + 1, none⟩ = some (.int .i64 (b.getD i zi).d) ∧ wr.cell? ⟨pb, i * 6 + 2, none⟩ = some (.int .i64 (b.getD i zi).a) ∧ wr.cell? ⟨pb, i * 6 + 3, none⟩ = some (.int .i64 (b.getD i zi).b) ∧ wr.cell? ⟨pb, i * 6 + 4, none⟩ = some (.int .i64 (b.getD i zi).m) ∧ wr.cell? ⟨pb, i * 6 + 5, none⟩ = some (.string ⟨#[]⟩) from (BLb.out.below DW.out).ins i hlt
          have ST := Lib.hid (hz_step2 (dl := dl) (fl := fl) (wr := wl) hib)
          have VX := Lib.hid (V4.out.2 (b.getD i zi) (by rw [List.getD_eq_getElem?_getD, List.getElem?_eq_getElem hib]; exact List.getElem_mem _))
          generalize b.getD i zi = x at x0 x1 x2 x3 x4 x5 ST VX
          have X0 := Lib.hid x0
          have T10 := Lib.hid (show wr.cell? ⟨w.heap.size, 10, none⟩ = some (.int .i64 dl) from (ST1.out.below DW.out).cell 10)
          have pl1 : pb < wr.heap.size := by omega
          have wl1 : w.heap.size < wr.heap.size := by omega
          have EN := Lib.hid (fun W (bb : Bool) (h : decide (28 ≤ x.o) = bb) => show Calls Tryz.prog 61 #[.int .i64 x.o] W (BoolPost bb W) by rw [← h]; exact rends_any x.o W VX.out.o)
          have RTf := Lib.hid (show hz1 dl fl wl x = true → hz dl fl 0 [] b = i from fun h => by rw [HE.out, ST.out, if_pos h])
          have NXf := Lib.hid (show hz1 dl fl wl x = false → hz dl fl 0 [] b = hz dl fl (i + 1) (wrs x wl) (b.drop (i + 1)) from fun h => by rw [HE.out, ST.out, if_neg (by rw [h]; exact Bool.false_ne_true)])
          have IB := Lib.hid (fun (d : Nat) W (h : Nums W (.slice va n cc) (fl.map fun f => (f.r : Int))) => show Calls Tryz.prog 76 #[.slice va n cc, .int .i64 (d : Nat)] W (InPost (fliesTo fl d) W) by rw [← mem_busy]; exact in_any _ _ _ W h (by rw [List.length_map, HN.out]; exact hfl))
          have IW := Lib.hid (fun (d : Nat) W (h : Nums W (.slice va8 wl.length cc8) (wl.reverse.map Int.ofNat)) => show Calls Tryz.prog 76 #[.slice va8 wl.length cc8, .int .i64 (d : Nat)] W (InPost (wl.contains d) W) by rw [← mem_wrote]; exact in_any _ _ _ W h (by rw [List.length_map, List.length_reverse]; omega))
          have RDS := Lib.hid (fun W => show Calls Tryz.prog 75 #[.agg #[.int .i64 x.o, .int .i64 x.d, .int .i64 x.a, .int .i64 x.b, .int .i64 x.m, .string ⟨#[]⟩]] W (NumsPost (readsL (fm x.o) x.a x.b) W) from rreads_any x.o x.d x.a x.b x.m ⟨#[]⟩ W VX.out.o)
          have WRS := Lib.hid (fun W => show Calls Tryz.prog 77 #[.agg #[.int .i64 x.o, .int .i64 x.d, .int .i64 x.a, .int .i64 x.b, .int .i64 x.m, .string ⟨#[]⟩]] W (IntBelow (if sd (fm x.o) then (x.d : Int) else -1) W) from rwrites_any x.o x.d x.a x.b x.m ⟨#[]⟩ W VX.out.o)
          go_wp2_with fail
          refine (RDS.out _).mono ?_
          rintro e w3 ⟨v3, rfl, own3, b3⟩
          rw [rds_list x] at own3
          obtain ⟨va3, cc3, rfl⟩ := own_form own3
          have N3 := Lib.hid (RowAt.of_own own3)
          have D3 := Lib.hid b3
          have wz3 := b3.size
          rw [List.length_map] at N3
          clear own3 b3
          have NR := Lib.hid (show (rds x).length ≤ 100 from rds_len x)
          rw [List.length_map]
          generalize hnr : (rds x).length = nr at *
          have HNR := Lib.hid hnr
          clear hnr
          have B3 := Lib.hid (A1.out.below (DW.out.trans (D3.out.mono wzw)))
          have Y0 := Lib.hid (show W1.cell? ⟨pb, i * 6, none⟩ = some (.int .i64 x.o) from (DW.out.cell (p := ⟨pb, i * 6, none⟩) pl0).symm.trans X0.out)
          have Y10 := Lib.hid (show W1.cell? ⟨w.heap.size, 10, none⟩ = some (.int .i64 dl) from ST1.out.cell 10)
          have DW3 := Lib.hid (DW.out.trans (D3.out.mono wzw))
          have OW3 := Lib.hid (show w3.ownsRow W1.heap.size 3 1 (.slice va8 wl.length cc8) wl.length ((wl.reverse.map Int.ofNat).map (Value.int .i64)) from OW.out.kept (grown_below D3.out) (by cases (Value.slice va8 wl.length cc8).ownBlock; exact .inl rfl; exact .inr (by simp)))
          have z0 : w3.cell? ⟨pb, i * 6, none⟩ = some (.int .i64 x.o) := (D3.out.cell (p := ⟨pb, i * 6, none⟩) pl1).trans x0
          have z1 : w3.cell? ⟨pb, i * 6 + 1, none⟩ = some (.int .i64 x.d) := (D3.out.cell (p := ⟨pb, i * 6 + 1, none⟩) pl1).trans x1
          have z2 : w3.cell? ⟨pb, i * 6 + 2, none⟩ = some (.int .i64 x.a) := (D3.out.cell (p := ⟨pb, i * 6 + 2, none⟩) pl1).trans x2
          have z3 : w3.cell? ⟨pb, i * 6 + 3, none⟩ = some (.int .i64 x.b) := (D3.out.cell (p := ⟨pb, i * 6 + 3, none⟩) pl1).trans x3
          have z4 : w3.cell? ⟨pb, i * 6 + 4, none⟩ = some (.int .i64 x.m) := (D3.out.cell (p := ⟨pb, i * 6 + 4, none⟩) pl1).trans x4
          have z5 : w3.cell? ⟨pb, i * 6 + 5, none⟩ = some (.string ⟨#[]⟩) := (D3.out.cell (p := ⟨pb, i * 6 + 5, none⟩) pl1).trans x5
          clear x0 x1 x2 x3 x4 x5
          go_wp2_with fail
          go_loop [11] (fun o => ∃ k : Nat, k ≤ nr ∧ o = .int .i64 k ∧ ((rds x).take k).any (fliesTo fl) = false) (fun o => nr - (intOf o).toNat)
          case atStart => exact ⟨0, by omega, rfl, by simp⟩
          case round =>
            obtain ⟨k, hk, rfl, hx⟩ := hrel
            have HXK := Lib.hid hx
            clear hx
            by_cases hkl : k < nr
            · have hdk : decide ((k : Int) < (nr : Int)) = true := by simpa using hkl
              have kk0 : (0 : Int) ≤ (k : Int) := by omega
              have kk1 : (k : Int) < (nr : Int) := by omega
              have nr1 := NR.out
              have hkk : k < (rds x).length := by have := HNR.out; omega
              obtain ⟨A3, c3, e3, hr3⟩ := N3.out
              injection e3 with e3a e3b e3c
              obtain ⟨g, hA3, hg, qq⟩ := hr3 (by rw [List.length_map]; omega)
              have hva : va3 = some ⟨g, 0, none⟩ := e3a.trans hA3
              have k1 := qq k ((((rds x)[k] : Nat)) : Int) (by rw [List.getElem?_map, List.getElem?_eq_getElem hkk]; rfl)
              have TK := Lib.hid (List.take_succ_eq_append_getElem hkk)
              have II := Lib.hid (IB.out (rds x)[k] w3 B3.out)
              have HA := Lib.hid (show fliesTo fl (rds x)[k] = true → (rds x).any (fliesTo fl) = true from fun h => List.any_eq_true.2 ⟨_, List.getElem_mem hkk, h⟩)
              generalize (rds x)[k] = rr at k1 TK II HA
              clear qq hg hkk hA3 e3a e3b e3c hr3
              subst hva
              cases hfr : fliesTo fl rr
              · rw [hfr] at II
                have FR := Lib.hid hfr
                clear hfr
                go_wp2_with fail
                refine II.out.mono ?_
                rintro e w' ⟨zz, hzz, rfl, rfl⟩
                go_wp2_with fail
                go_round
                case rel => exact ⟨k + 1, by omega, by go_num, by rw [TK.out, List.any_append, HXK.out]; simp [FR.out]⟩
                case measure => simp [intOf]; omega
              · rw [hfr] at II
                have RT := Lib.hid (RTf.out (by unfold hz1; rw [HA.out hfr]; simp))
                clear hfr
                go_wp2_with fail
                refine II.out.mono ?_
                rintro e w' ⟨zz, hzz, rfl, rfl⟩
                go_wp2_with fail
                go_ret
                exact intb_mk (RS.out.trans RT.out).symm (HB1.out.trans (DW3.out.mono bz1))
            · have hdk : decide ((k : Int) < (nr : Int)) = false := by simp; omega
              have RR := Lib.hid (show (rds x).any (fliesTo fl) = false by have h9 := HXK.out; rwa [List.take_of_length_le (by have := HNR.out; omega)] at h9)
              go_wp2_with fail
              refine (WRS.out _).mono ?_
              rintro e w4 ⟨rfl, b4⟩
              have D4 := Lib.hid (DW3.out.trans (b4.mono DW3.out.size))
              have B4 := Lib.hid (A1.out.below D4.out)
              have OW4 := Lib.hid (show w4.ownsRow W1.heap.size 3 1 (.slice va8 wl.length cc8) wl.length ((wl.reverse.map Int.ofNat).map (Value.int .i64)) from OW3.out.kept (grown_below b4) (by cases (Value.slice va8 wl.length cc8).ownBlock; exact .inl rfl; exact .inr (by simp)))
              clear b4 z0 z1 z2 z3 z4 z5
              cases hsd : sd (fm x.o)
              · have HSD := Lib.hid hsd
                clear hsd
                have D5 := D4
                simp only [Bool.false_eq_true, if_false]
                have y0 : w4.cell? ⟨pb, i * 6, none⟩ = some (.int .i64 x.o) := (D5.out.cell (p := ⟨pb, i * 6, none⟩) pl0).trans Y0.out
                have y10 : w4.cell? ⟨w.heap.size, 10, none⟩ = some (.int .i64 dl) := (D5.out.cell (p := ⟨w.heap.size, 10, none⟩) wl0).trans Y10.out
                by_cases hE : 28 ≤ x.o ∧ 0 < dl
                · have RT := Lib.hid (RTf.out (by unfold hz1; simp [hE]))
                  have dp : 0 < dl := hE.2
                  have di : (0 : Int) < (dl : Int) := by omega
                  have EE := Lib.hid (fun W => EN.out W true (by simpa using hE.1))
                  clear hE
                  go_wp2_with (go_at_call 61; refine (EE.out _).mono ?_; rintro e w' ⟨rfl, rfl⟩)
                  go_ret
                  exact intb_mk (RS.out.trans RT.out).symm (HB1.out.trans (D5.out.mono bz1))
                have hcase : decide (28 ≤ x.o) = false ∨ (decide (28 ≤ x.o) = true ∧ dl = 0) := by
                  by_cases h28 : 28 ≤ x.o
                  · right
                    refine ⟨by simpa using h28, ?_⟩
                    have : ¬ 0 < dl := fun h => hE ⟨h28, h⟩
                    omega
                  · left; simpa using h28
                have E0 := Lib.hid (show (decide (28 ≤ x.o) && decide (0 < dl)) = false by rw [← Bool.decide_and]; exact decide_eq_false hE)
                have NX := Lib.hid (NXf.out (by unfold hz1; rw [E0.out, RR.out, HSD.out]; simp))
                rw [show wrs x wl = wl by unfold wrs; rw [HSD.out]; rfl] at NX
                clear hE
                rcases hcase with hc | ⟨hc, rfl⟩
                all_goals
                  have EE := Lib.hid (fun W => EN.out W _ hc)
                  clear hc
                  go_wp2_with (go_at_call 61; refine (EE.out _).mono ?_; rintro e w' ⟨rfl, rfl⟩)
                  go_roundg (4 - (i + 1))
                  case measure => omega
                  case rel => exact ⟨i + 1, wl, va8, cc8, by omega, rfl, by go_num, rfl, by omega, OW4.out, D5.out, NX.out⟩
              · have HSD := Lib.hid hsd
                clear hsd
                simp only [if_true]
                have dd0 : (0 : Int) ≤ (x.d : Int) := by omega
                cases hfd : fliesTo fl x.d
                · cases hwd : wl.contains x.d
                  · have VF := Lib.hid hfd
                    have VW := Lib.hid hwd
                    have I1 := Lib.hid (show Calls Tryz.prog 76 #[.slice va n cc, .int .i64 (x.d : Nat)] w4 (InPost false w4) by rw [← hfd]; exact IB.out x.d w4 B4.out)
                    have I2 := Lib.hid (show Calls Tryz.prog 76 #[.slice va8 wl.length cc8, .int .i64 (x.d : Nat)] w4 (InPost false w4) by rw [← hwd]; exact IW.out x.d w4 (RowAt.of_own (own_len OW4.out (by simp))))
                    clear hfd hwd
                    go_wp2_with fail
                    refine I1.out.mono ?_
                    rintro e w' ⟨zz, hzz, rfl, rfl⟩
                    go_wp2_with fail
                    refine I2.out.mono ?_
                    rintro e w' ⟨zz2, hzz2, rfl, rfl⟩
                    go_wp2_with (at_builtin; refine app_one 24 3 8 (.int .i64 0) Tryz.info3 rfl (by decide) Tryz.underlying24 rfl _ _ rfl _ W1.heap.size wl.length (.slice va8 wl.length cc8) (.int .i64 x.d) _ rfl OW4.out (by omega) rfl _ rfl rfl D4.out.size ?_; intro v9 w9 own9 hg9; obtain ⟨va9, cc9, rfl⟩ := own_form own9; have O9 := Lib.hid own9; have D5 := Lib.hid (D4.out.trans (app_below OW4.out hg9 D4.out.size)); clear own9 hg9; have y0 : w9.cell? ⟨pb, i * 6, none⟩ = some (.int .i64 x.o) := (D5.out.cell (p := ⟨pb, i * 6, none⟩) pl0).trans Y0.out; have y10 : w9.cell? ⟨w.heap.size, 10, none⟩ = some (.int .i64 dl) := (D5.out.cell (p := ⟨w.heap.size, 10, none⟩) wl0).trans Y10.out)
                    by_cases hE : 28 ≤ x.o ∧ 0 < dl
                    · have RT := Lib.hid (RTf.out (by unfold hz1; simp [hE]))
                      have dp : 0 < dl := hE.2
                      have di : (0 : Int) < (dl : Int) := by omega
                      have EE := Lib.hid (fun W => EN.out W true (by simpa using hE.1))
                      clear hE
                      go_wp2_with (go_at_call 61; refine (EE.out _).mono ?_; rintro e w' ⟨rfl, rfl⟩)
                      go_ret
                      exact intb_mk (RS.out.trans RT.out).symm (HB1.out.trans (D5.out.mono bz1))
                    have hcase : decide (28 ≤ x.o) = false ∨ (decide (28 ≤ x.o) = true ∧ dl = 0) := by
                      by_cases h28 : 28 ≤ x.o
                      · right
                        refine ⟨by simpa using h28, ?_⟩
                        have : ¬ 0 < dl := fun h => hE ⟨h28, h⟩
                        omega
                      · left; simpa using h28
                    have E0 := Lib.hid (show (decide (28 ≤ x.o) && decide (0 < dl)) = false by rw [← Bool.decide_and]; exact decide_eq_false hE)
                    have NX := Lib.hid (NXf.out (by unfold hz1; rw [E0.out, RR.out, VF.out, VW.out]; simp))
                    rw [show wrs x wl = x.d :: wl by unfold wrs; rw [HSD.out]; rfl] at NX
                    clear hE
                    rcases hcase with hc | ⟨hc, rfl⟩
                    all_goals
                      have EE := Lib.hid (fun W => EN.out W _ hc)
                      clear hc
                      go_wp2_with (go_at_call 61; refine (EE.out _).mono ?_; rintro e w' ⟨rfl, rfl⟩)
                      go_roundg (4 - (i + 1))
                      case measure => omega
                      case rel => exact ⟨i + 1, x.d :: wl, va9, cc9, by omega, rfl, by go_num, rfl, by simp; omega, by have h9 := O9.out; simpa [List.map_append] using h9, D5.out, NX.out⟩
                  · have VF := Lib.hid hfd
                    have I1 := Lib.hid (show Calls Tryz.prog 76 #[.slice va n cc, .int .i64 (x.d : Nat)] w4 (InPost false w4) by rw [← hfd]; exact IB.out x.d w4 B4.out)
                    have I2 := Lib.hid (show Calls Tryz.prog 76 #[.slice va8 wl.length cc8, .int .i64 (x.d : Nat)] w4 (InPost true w4) by rw [← hwd]; exact IW.out x.d w4 (RowAt.of_own (own_len OW4.out (by simp))))
                    have RT := Lib.hid (RTf.out (by unfold hz1; rw [HSD.out, hwd]; simp))
                    clear hfd hwd
                    go_wp2_with fail
                    refine I1.out.mono ?_
                    rintro e w' ⟨zz, hzz, rfl, rfl⟩
                    go_wp2_with fail
                    refine I2.out.mono ?_
                    rintro e w' ⟨zz2, hzz2, rfl, rfl⟩
                    go_wp2_with fail
                    go_ret
                    exact intb_mk (RS.out.trans RT.out).symm (HB1.out.trans (D4.out.mono bz1))
                · have I1 := Lib.hid (show Calls Tryz.prog 76 #[.slice va n cc, .int .i64 (x.d : Nat)] w4 (InPost true w4) by rw [← hfd]; exact IB.out x.d w4 B4.out)
                  have RT := Lib.hid (RTf.out (by unfold hz1; rw [HSD.out, hfd]; simp))
                  clear hfd
                  go_wp2_with fail
                  refine I1.out.mono ?_
                  rintro e w' ⟨zz, hzz, rfl, rfl⟩
                  go_wp2_with fail
                  go_ret
                  exact intb_mk (RS.out.trans RT.out).symm (HB1.out.trans (D4.out.mono bz1))
        · have hd : decide ((i : Int) < 4) = false := by simp; omega
          obtain rfl : i = 4 := by omega
          have ED := Lib.hid (show hz dl fl 0 [] b = -1 by rw [HE.out, List.drop_of_length_le (by rw [V4.out.1]; omega)]; rfl)
          go_wp2_with fail
          go_ret
          exact intb_mk (RS.out.trans ED.out).symm (HB1.out.trans (DW.out.mono bz1))
end
end
end Go.Proofs.YtbgmdikcbglpiaaGreatDoor
