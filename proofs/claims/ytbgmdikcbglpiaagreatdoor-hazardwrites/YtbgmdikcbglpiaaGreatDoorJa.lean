/-
  Which registers an instruction reads and writes, as the program and the page tell: the same; only new memory is made. Conditions: the tables lie in the world; the op is from 0 to 33.
  Reads and Writes of any instruction, of the program and of the page. Conditions: the tables lie in the world; the name is no longer than a string may be.
  The first hazard of a bundle, a cycle that looks, and so many of them, as Lean functions. No program is named here, no condition.
  Contract of package hazard's call reads: does an instruction read a register to which something flies? Conditions: the instruction may be; the tables lie in the world.
-/
import Derived.Test.YtbgmdikcbglpiaaGreatDoorMay
import Derived.Test.YtbgmdikcbglpiaaGreatDoorRy
import Derived.Test.YtbgmdikcbglpiaaGreatDoorNew
namespace Go.Proofs.YtbgmdikcbglpiaaGreatDoor
open Go.RowKit

section
section
theorem Tryz.info9 : (Tryz.prog.info? 9).map (fun i => (i.zero, i.size, i.bytes)) = some (some (.string ⟨#[]⟩), 1, 16) := by kernel_rfl
/-- append of one element to a row of the call's own. -/
theorem app_one (t e : TypeId) (bytes : Nat) (z : Value) (hinfo : (Tryz.prog.info? e).map (fun i => (i.zero, i.size, i.bytes)) = some (some z, 1, bytes)) (hzs : z.cells.size = 1) (hby : bytes ≤ 16) (ht : Tryz.prog.underlying t = some (.slice e))
    {ops : Array Oper} {rest : List Oper} {o : Oper} {a : Act} {Q : Exit → Act → World → Prop} (hgd : o.guard = none) (s x : Operand) (ho : o.op = .call { callee := .builtin .append, args := #[s, x], argTypes := #[t, t] })
    (W : World) (base n : Nat) (v u : Value) (xs : List Value) (hs : a.eval s = v) (hown : W.ownsRow base e 1 v n xs) (hn : n ≤ 1000) (hu : u.oneCell' = true) (g : Nat) (hx : a.eval x = .slice (some ⟨g, 0, none⟩) 1 1) (hg0 : W.heap.size = g) (hbase : base ≤ W.heap.size)
    (h : ∀ v' w', w'.ownsRow base e 1 v' (n + 1) (xs ++ [u]) → (W.alloc (.cells #[u] e)).grownBy w' v.ownBlock → wpList Tryz.prog ops Q rest (a.put o.dst v') w') :
    wpList Tryz.prog ops Q (o :: rest) a (W.alloc (.cells #[u] e)) := by
  subst hg0
  obtain ⟨i, hi, he⟩ := Option.map_eq_some_iff.1 hinfo
  simp only [Prod.mk.injEq] at he
  refine wpList_append_own _ hgd s x t ho base e i z 1 bytes ht hi he.1 he.2.1 he.2.2 hzs (by decide) v n xs hs (hown.alloc _) ⟨W.heap.size, 0, none⟩ 1 1 [u] hx rfl ?_ (fun y hy => by simp at hy; subst hy; exact hu) ?_ ?_ (by simp; omega) (fun v' w' h1 h2 _ => h v' w' h1 h2)
  · exact (World.ownsRow_lit (base := 0) (e := e) (size := 1) W #[u] 1 (by simp) (by unfold maxLen; omega) rfl).cells rfl
  · unfold maxLen; omega
  · have : (n + 1) * bytes ≤ 1001 * 16 := Nat.mul_le_mul (by omega) hby
    omega
theorem app_below {W w' : World} {base e n : Nat} {v : Value} {xs : List Value} {ob : Obj} (hown : W.ownsRow base e 1 v n xs) (hg : (W.alloc ob).grownBy w' v.ownBlock) (hbase : base ≤ W.heap.size) : Below base W w' :=
  ((Below.refl base W).alloc hbase _).grown hg (by simp; omega) (fun k hk => (hown.lt k hk).1)
theorem own_le {w : World} {base base' e n : Nat} {v : Value} {xs : List Value} (h : w.ownsRow base e 1 v n xs) (hb : base' ≤ base) : w.ownsRow base' e 1 v n xs := Go.Joins.ownsRow_le h hb

/-- What an instruction reads. -/
def readsL (f : Nat) (a b : Int) : List Int := (if sa f then [a] else []) ++ (if sb f then [b] else [])
theorem readsL_le (f : Nat) (a b : Int) : (readsL f a b).length ≤ 2 := by unfold readsL; cases sa f <;> cases sb f <;> simp
set_option maxHeartbeats 1000000 in
theorem readsOf_00 (n : Nat) (d a b m : Int) (s : ByteArray) (w : World) (h : n < 34) (H : Tab w) (ca : sa (fm n) = false) (cb : sb (fm n) = false) : Calls Tryz.prog 115 #[.agg #[.int .i64 n, .int .i64 d, .int .i64 a, .int .i64 b, .int .i64 m, .string s]] w (NumsPost (readsL (fm n) a b) w) := by
  have T := Lib.hid H
  have RL := Lib.hid (show readsL (fm n) a b = [] by unfold readsL; rw [ca, cb]; rfl)
  clear H
  go_enter Tryz.func115, Tryz.ntmps115
  go_wp2_with fail
  refine (shape_any _ _ h (T.out.alloc _)).mono ?_
  rintro e w1 ⟨rfl, hb⟩
  rw [ca, cb]
  obtain ⟨q, hz, hB⟩ := box_cells hb
  have k2 : w1.cell? ⟨w.heap.size, 2, none⟩ = some (.int .i64 a) := q 2
  have k3 : w1.cell? ⟨w.heap.size, 3, none⟩ = some (.int .i64 b) := q 3
  have HB := Lib.hid hB
  clear q hb hB ca cb
  go_wp2
  go_ret
  exact ⟨_, rfl, by rw [RL.out]; exact World.ownsRow_nil _ _ _ _, HB.out.alloc (by omega) _⟩
set_option maxHeartbeats 1000000 in
theorem readsOf_01 (n : Nat) (d a b m : Int) (s : ByteArray) (w : World) (h : n < 34) (H : Tab w) (ca : sa (fm n) = false) (cb : sb (fm n) = true) : Calls Tryz.prog 115 #[.agg #[.int .i64 n, .int .i64 d, .int .i64 a, .int .i64 b, .int .i64 m, .string s]] w (NumsPost (readsL (fm n) a b) w) := by
  have T := Lib.hid H
  have RL := Lib.hid (show readsL (fm n) a b = [b] by unfold readsL; rw [ca, cb]; rfl)
  clear H
  go_enter Tryz.func115, Tryz.ntmps115
  go_wp2_with fail
  refine (shape_any _ _ h (T.out.alloc _)).mono ?_
  rintro e w1 ⟨rfl, hb⟩
  rw [ca, cb]
  obtain ⟨q, hz, hB⟩ := box_cells hb
  have k2 : w1.cell? ⟨w.heap.size, 2, none⟩ = some (.int .i64 a) := q 2
  have k3 : w1.cell? ⟨w.heap.size, 3, none⟩ = some (.int .i64 b) := q 3
  have HB := Lib.hid hB
  clear q hb hB ca cb
  go_wp2_with (at_builtin; refine app_one 24 3 8 (.int .i64 0) Tryz.info3 rfl (by decide) Tryz.underlying24 (by rfl) _ _ (by rfl) _ (w1.heap.size + 1) 0 _ _ [] (by rfl) (World.ownsRow_nil _ _ _ _) (by decide) (by rfl) _ (by rfl) (by simp) ?hb ?_)
  case hb => simp
  intro v' w3 hown hg
  have hbl := app_below (base := w1.heap.size + 1) (e := 3) (World.ownsRow_nil _ _ _ _) hg (by simp)
  have HO := Lib.hid hown
  have HL := Lib.hid hbl
  have HB2 := Lib.hid ((HB.out.alloc (by omega) _).trans (hbl.mono (by omega)))
  have l0 : w3.cell? ⟨w1.heap.size, 2, none⟩ = some (.bool true) := (hbl.cell (p := ⟨w1.heap.size, 2, none⟩) (by simp)).trans (by simp [go_sem])
  clear hown hg hbl
  go_wp2
  go_ret
  exact ⟨v', rfl, by rw [RL.out]; exact own_le HO.out (by omega), HB2.out⟩
set_option maxHeartbeats 1000000 in
theorem readsOf_10 (n : Nat) (d a b m : Int) (s : ByteArray) (w : World) (h : n < 34) (H : Tab w) (ca : sa (fm n) = true) (cb : sb (fm n) = false) : Calls Tryz.prog 115 #[.agg #[.int .i64 n, .int .i64 d, .int .i64 a, .int .i64 b, .int .i64 m, .string s]] w (NumsPost (readsL (fm n) a b) w) := by
  have T := Lib.hid H
  have RL := Lib.hid (show readsL (fm n) a b = [a] by unfold readsL; rw [ca, cb]; rfl)
  clear H
  go_enter Tryz.func115, Tryz.ntmps115
  go_wp2_with fail
  refine (shape_any _ _ h (T.out.alloc _)).mono ?_
  rintro e w1 ⟨rfl, hb⟩
  rw [ca, cb]
  obtain ⟨q, hz, hB⟩ := box_cells hb
  have k2 : w1.cell? ⟨w.heap.size, 2, none⟩ = some (.int .i64 a) := q 2
  have k3 : w1.cell? ⟨w.heap.size, 3, none⟩ = some (.int .i64 b) := q 3
  have HB := Lib.hid hB
  clear q hb hB ca cb
  go_wp2_with (at_builtin; refine app_one 24 3 8 (.int .i64 0) Tryz.info3 rfl (by decide) Tryz.underlying24 (by rfl) _ _ (by rfl) _ (w1.heap.size + 1) 0 _ _ [] (by rfl) (World.ownsRow_nil _ _ _ _) (by decide) (by rfl) _ (by rfl) (by simp) ?hb ?_)
  case hb => simp
  intro v' w3 hown hg
  have hbl := app_below (base := w1.heap.size + 1) (e := 3) (World.ownsRow_nil _ _ _ _) hg (by simp)
  have HO := Lib.hid hown
  have HL := Lib.hid hbl
  have HB2 := Lib.hid ((HB.out.alloc (by omega) _).trans (hbl.mono (by omega)))
  have l0 : w3.cell? ⟨w1.heap.size, 2, none⟩ = some (.bool false) := (hbl.cell (p := ⟨w1.heap.size, 2, none⟩) (by simp)).trans (by simp [go_sem])
  clear hown hg hbl
  go_wp2
  go_ret
  exact ⟨v', rfl, by rw [RL.out]; exact own_le HO.out (by omega), HB2.out⟩
set_option maxHeartbeats 1000000 in
theorem readsOf_11 (n : Nat) (d a b m : Int) (s : ByteArray) (w : World) (h : n < 34) (H : Tab w) (ca : sa (fm n) = true) (cb : sb (fm n) = true) : Calls Tryz.prog 115 #[.agg #[.int .i64 n, .int .i64 d, .int .i64 a, .int .i64 b, .int .i64 m, .string s]] w (NumsPost (readsL (fm n) a b) w) := by
  have T := Lib.hid H
  have RL := Lib.hid (show readsL (fm n) a b = [a, b] by unfold readsL; rw [ca, cb]; rfl)
  clear H
  go_enter Tryz.func115, Tryz.ntmps115
  go_wp2_with fail
  refine (shape_any _ _ h (T.out.alloc _)).mono ?_
  rintro e w1 ⟨rfl, hb⟩
  rw [ca, cb]
  obtain ⟨q, hz, hB⟩ := box_cells hb
  have k2 : w1.cell? ⟨w.heap.size, 2, none⟩ = some (.int .i64 a) := q 2
  have k3 : w1.cell? ⟨w.heap.size, 3, none⟩ = some (.int .i64 b) := q 3
  have HB := Lib.hid hB
  clear q hb hB ca cb
  go_wp2_with (at_builtin; refine app_one 24 3 8 (.int .i64 0) Tryz.info3 rfl (by decide) Tryz.underlying24 (by rfl) _ _ (by rfl) _ (w1.heap.size + 1) 0 _ _ [] (by rfl) (World.ownsRow_nil _ _ _ _) (by decide) (by rfl) _ (by rfl) (by simp) ?hb ?_)
  case hb => simp
  intro v' w3 hown hg
  have hbl := app_below (base := w1.heap.size + 1) (e := 3) (World.ownsRow_nil _ _ _ _) hg (by simp)
  have HO := Lib.hid hown
  have HL := Lib.hid hbl
  have HB2 := Lib.hid ((HB.out.alloc (by omega) _).trans (hbl.mono (by omega)))
  have hz3 : w1.heap.size + 1 ≤ w3.heap.size := by have := hbl.size; simp at this; omega
  have l0 : w3.cell? ⟨w1.heap.size, 2, none⟩ = some (.bool true) := (hbl.cell (p := ⟨w1.heap.size, 2, none⟩) (by simp)).trans (by simp [go_sem])
  have l3 : w3.cell? ⟨w.heap.size, 3, none⟩ = some (.int .i64 b) := (hbl.cell (p := ⟨w.heap.size, 3, none⟩) (by simp; omega)).trans (by simp [go_sem, hz, k3])
  clear hown hg hbl
  go_wp2_with (at_builtin; refine app_one 24 3 8 (.int .i64 0) Tryz.info3 rfl (by decide) Tryz.underlying24 (by rfl) _ _ (by rfl) _ (w1.heap.size + 1) 1 _ _ _ (by rfl) HO.out (by decide) (by rfl) _ (by rfl) (by simp) ?hb ?_)
  case hb => exact hz3
  intro v2 w4 hown hg
  have hbl := app_below HO.out hg hz3
  go_wp2
  go_ret
  exact ⟨v2, rfl, by rw [RL.out]; exact own_le hown (by omega), HB2.out.trans (hbl.mono (by omega))⟩

theorem readsOf_any (n : Nat) (d a b m : Int) (s : ByteArray) (w : World) (h : n < 34) (H : Tab w) : Calls Tryz.prog 115 #[.agg #[.int .i64 n, .int .i64 d, .int .i64 a, .int .i64 b, .int .i64 m, .string s]] w (NumsPost (readsL (fm n) a b) w) := by
  cases ca : sa (fm n)
  · cases cb : sb (fm n)
    · exact readsOf_00 n d a b m s w h H ca cb
    · exact readsOf_01 n d a b m s w h H ca cb
  · cases cb : sb (fm n)
    · exact readsOf_10 n d a b m s w h H ca cb
    · exact readsOf_11 n d a b m s w h H ca cb
end
section
/-- No instruction: no op, or a field is wrong. -/
def Bad (o d a b m : Int) (s : ByteArray) : Prop := (o < 0 ∨ 33 < o) ∨ ∃ n : Nat, n < 34 ∧ o = n ∧ insB n d a b m s = false
theorem check_good (n : Nat) (d a b m : Int) (s : ByteArray) (w : World) (h : n < 34) (H : Tab w) (hs : s.size ≤ maxLen) (hi : insB n d a b m s = true) : Calls Tryz.prog 86 #[.agg #[.int .i64 n, .int .i64 d, .int .i64 a, .int .i64 b, .int .i64 m, .string s]] w (IntBelow 0 w) := by
  have := check_any n d a b m s w h H hs
  rw [chk_ins n d a b m s h, hi] at this
  exact this
theorem check_bad (o : Int) (d a b m : Int) (s : ByteArray) (w : World) (H : Tab w) (hs : s.size ≤ maxLen) (hi : Bad o d a b m s) : Calls Tryz.prog 86 #[.agg #[.int .i64 o, .int .i64 d, .int .i64 a, .int .i64 b, .int .i64 m, .string s]] w (IntBelow 1 w) := by
  rcases hi with h | ⟨n, h, rfl, hi⟩
  · exact check_no o d a b m s w h
  · have := check_any n d a b m s w h H hs
    rw [chk_ins n d a b m s h, hi] at this
    exact this
theorem ins_bad (o : Int) (d a b m : Int) (s : ByteArray) (w : World) (hs : s.size ≤ maxLen) (hi : Bad o d a b m s) : Calls Tryz.prog 89 #[.agg #[.int .i64 o, .int .i64 d, .int .i64 a, .int .i64 b, .int .i64 m, .string s]] w (BoolBelow false w) := by
  rcases hi with h | ⟨n, h, rfl, hi⟩
  · exact ins_no o d a b m s w h
  · have := ins_any n d a b m s w h hs
    rw [hi] at this
    exact this
theorem ins_good (n : Nat) (d a b m : Int) (s : ByteArray) (w : World) (h : n < 34) (hs : s.size ≤ maxLen) (hi : insB n d a b m s = true) : Calls Tryz.prog 89 #[.agg #[.int .i64 n, .int .i64 d, .int .i64 a, .int .i64 b, .int .i64 m, .string s]] w (BoolBelow true w) := by
  have := ins_any n d a b m s w h hs
  rw [hi] at this
  exact this

theorem field_d (x0 x1 x2 x5 : Bool) (x3 x4 : Int) (W : World) : (Instr.field 109 (.agg #[.bool x0, .bool x1, .bool x2, .int .i64 x3, .int .i64 x4, .bool x5]) 0).run Tryz.prog W = .ok (.bool x0) W := by kernel_rfl
def TwoBelow (x c : Int) (w : World) (e : Ending) (w' : World) : Prop := e = .returned (.tuple #[.int .i64 x, .int .i64 c]) ∧ Below w.heap.size w w'
def NumsTwo (zs : List Int) (c : Int) (w : World) (e : Ending) (w' : World) : Prop := ∃ v, e = .returned (.tuple #[v, .int .i64 c]) ∧ w'.ownsRow w.heap.size 3 1 v zs.length (zs.map (Value.int .i64)) ∧ Below w.heap.size w w'
set_option maxHeartbeats 400000 in
theorem reads_good (n : Nat) (d a b m : Int) (s : ByteArray) (w : World) (h : n < 34) (H : Tab w) (hs : s.size ≤ maxLen) (hi : insB n d a b m s = true) : Calls Tryz.prog 97 #[.agg #[.int .i64 n, .int .i64 d, .int .i64 a, .int .i64 b, .int .i64 m, .string s]] w (NumsTwo (readsL (fm n) a b) 0 w) := by
  have T := Lib.hid H
  clear H
  go_enter Tryz.func97, Tryz.ntmps97
  go_wp2_with fail
  refine (check_good _ _ _ _ _ _ _ h (T.out.alloc _) hs hi).mono ?_
  rintro e w1 ⟨rfl, hb⟩
  obtain ⟨q, hz, hB⟩ := box_cells hb
  have k0 : w1.cell? ⟨w.heap.size, 0, none⟩ = some (.int .i64 n) := q 0
  have k1 : w1.cell? ⟨w.heap.size, 1, none⟩ = some (.int .i64 d) := q 1
  have k2 : w1.cell? ⟨w.heap.size, 2, none⟩ = some (.int .i64 a) := q 2
  have k3 : w1.cell? ⟨w.heap.size, 3, none⟩ = some (.int .i64 b) := q 3
  have k4 : w1.cell? ⟨w.heap.size, 4, none⟩ = some (.int .i64 m) := q 4
  have k5 : w1.cell? ⟨w.heap.size, 5, none⟩ = some (.string s) := q 5
  have T1 := Lib.hid ((T.out.alloc _).below hb)
  have HB := Lib.hid hB
  clear q hb hB
  go_wp2_with (go_at_call 115; refine (readsOf_any _ _ _ _ _ _ _ h T1.out).mono ?_; rintro e w2 ⟨v, rfl, hown, hb2⟩)
  go_ret2
  exact ⟨v, rfl, own_le hown (by omega), HB.out.trans (hb2.mono (by omega))⟩
theorem reads_bad (o : Int) (d a b m : Int) (s : ByteArray) (w : World) (H : Tab w) (hs : s.size ≤ maxLen) (hi : Bad o d a b m s) : Calls Tryz.prog 97 #[.agg #[.int .i64 o, .int .i64 d, .int .i64 a, .int .i64 b, .int .i64 m, .string s]] w (NumsTwo [] 1 w) := by
  have T := Lib.hid H
  have HI := Lib.hid hi
  clear H hi
  go_enter Tryz.func97, Tryz.ntmps97
  go_wp2_with fail
  refine (check_bad _ _ _ _ _ _ _ (T.out.alloc _) hs HI.out).mono ?_
  rintro e w1 ⟨rfl, hb⟩
  go_wp2
  go_ret2
  exact ⟨_, rfl, World.ownsRow_nil _ _ _ _, (below_new _ _).trans (hb.mono (by simp))⟩
set_option maxHeartbeats 400000 in
set_option maxRecDepth 100000 in
theorem writes_d (n : Nat) (d a b m : Int) (s : ByteArray) (w : World) (h : n < 34) (H : Tab w) (hs : s.size ≤ maxLen) (hi : insB n d a b m s = true) (hd : sd (fm n) = true) : Calls Tryz.prog 81 #[.agg #[.int .i64 n, .int .i64 d, .int .i64 a, .int .i64 b, .int .i64 m, .string s]] w (TwoBelow d 0 w) := by
  have T := Lib.hid H
  have hfd := field_d (sd (fm n)) (sa (fm n)) (sb (fm n)) (stg (fm n)) (slo (fm n)) (shi (fm n))
  rw [hd] at hfd
  clear H
  go_enter Tryz.func81, Tryz.ntmps81
  go_wp2_with fail
  refine (check_good _ _ _ _ _ _ _ h (T.out.alloc _) hs hi).mono ?_
  rintro e w1 ⟨rfl, hb⟩
  obtain ⟨q, hz, hB⟩ := box_cells hb
  have k0 : w1.cell? ⟨w.heap.size, 0, none⟩ = some (.int .i64 n) := q 0
  have k1 : w1.cell? ⟨w.heap.size, 1, none⟩ = some (.int .i64 d) := q 1
  have k2 : w1.cell? ⟨w.heap.size, 2, none⟩ = some (.int .i64 a) := q 2
  have k3 : w1.cell? ⟨w.heap.size, 3, none⟩ = some (.int .i64 b) := q 3
  have k4 : w1.cell? ⟨w.heap.size, 4, none⟩ = some (.int .i64 m) := q 4
  have k5 : w1.cell? ⟨w.heap.size, 5, none⟩ = some (.string s) := q 5
  have T1 := Lib.hid ((T.out.alloc _).below hb)
  have HB := Lib.hid hB
  clear q hb hB
  go_wp2_with (go_at_call 99; refine (shape_any _ _ h T1.out).mono ?_; rintro e w2 ⟨rfl, hb2⟩; have l1 : w2.cell? ⟨w.heap.size, 1, none⟩ = some (.int .i64 d) := (hb2.cell (p := ⟨w.heap.size, 1, none⟩) hz).trans k1; have HB2 := Lib.hid hb2; clear hb2)
  go_ret2
  exact ⟨rfl, HB.out.trans (HB2.out.mono (by omega))⟩
set_option maxHeartbeats 400000 in
set_option maxRecDepth 100000 in
theorem writes_no (n : Nat) (d a b m : Int) (s : ByteArray) (w : World) (h : n < 34) (H : Tab w) (hs : s.size ≤ maxLen) (hi : insB n d a b m s = true) (hd : sd (fm n) = false) : Calls Tryz.prog 81 #[.agg #[.int .i64 n, .int .i64 d, .int .i64 a, .int .i64 b, .int .i64 m, .string s]] w (TwoBelow 0 9 w) := by
  have T := Lib.hid H
  have hfd := field_d (sd (fm n)) (sa (fm n)) (sb (fm n)) (stg (fm n)) (slo (fm n)) (shi (fm n))
  rw [hd] at hfd
  clear H
  go_enter Tryz.func81, Tryz.ntmps81
  go_wp2_with fail
  refine (check_good _ _ _ _ _ _ _ h (T.out.alloc _) hs hi).mono ?_
  rintro e w1 ⟨rfl, hb⟩
  obtain ⟨q, hz, hB⟩ := box_cells hb
  have k0 : w1.cell? ⟨w.heap.size, 0, none⟩ = some (.int .i64 n) := q 0
  have k1 : w1.cell? ⟨w.heap.size, 1, none⟩ = some (.int .i64 d) := q 1
  have k2 : w1.cell? ⟨w.heap.size, 2, none⟩ = some (.int .i64 a) := q 2
  have k3 : w1.cell? ⟨w.heap.size, 3, none⟩ = some (.int .i64 b) := q 3
  have k4 : w1.cell? ⟨w.heap.size, 4, none⟩ = some (.int .i64 m) := q 4
  have k5 : w1.cell? ⟨w.heap.size, 5, none⟩ = some (.string s) := q 5
  have T1 := Lib.hid ((T.out.alloc _).below hb)
  have HB := Lib.hid hB
  clear q hb hB
  go_wp2_with (go_at_call 99; refine (shape_any _ _ h T1.out).mono ?_; rintro e w2 ⟨rfl, hb2⟩; have HB2 := Lib.hid hb2; clear hb2)
  go_ret2
  exact ⟨rfl, HB.out.trans (HB2.out.mono (by omega))⟩
theorem writes_bad (o : Int) (d a b m : Int) (s : ByteArray) (w : World) (H : Tab w) (hs : s.size ≤ maxLen) (hi : Bad o d a b m s) : Calls Tryz.prog 81 #[.agg #[.int .i64 o, .int .i64 d, .int .i64 a, .int .i64 b, .int .i64 m, .string s]] w (TwoBelow 0 1 w) := by
  have T := Lib.hid H
  have HI := Lib.hid hi
  clear H hi
  go_enter Tryz.func81, Tryz.ntmps81
  go_wp2_with fail
  refine (check_bad _ _ _ _ _ _ _ (T.out.alloc _) hs HI.out).mono ?_
  rintro e w1 ⟨rfl, hb⟩
  go_wp2
  go_ret2
  exact ⟨rfl, (below_new _ _).trans (hb.mono (by simp))⟩

/-! ### The page's own -/
theorem rwrites_any (n : Nat) (d a b m : Int) (s : ByteArray) (w : World) (h : n < 34) : Calls Tryz.prog 77 #[.agg #[.int .i64 n, .int .i64 d, .int .i64 a, .int .i64 b, .int .i64 m, .string s]] w (IntBelow (if sd (fm n) then d else -1) w) := by
  have hf := fm_lt h
  cases hd : sd (fm n)
  all_goals
    go_enter Tryz.func77, Tryz.ntmps77
    go_wp2_with fail
    refine (rform_any _ _ h).mono ?_
    rintro e w1 ⟨rfl, hb⟩
    obtain ⟨q, hz, hB⟩ := box_cells hb
    have k1 : w1.cell? ⟨w.heap.size, 1, none⟩ = some (.int .i64 d) := q 1
    have HB := Lib.hid hB
    clear q hb hB
    go_wp2_with (go_at_call 33; refine (hasD_any _ _ hf).mono ?_; rintro e w' ⟨rfl, rfl⟩)
    go_ret
    exact ⟨rfl, HB.out⟩
set_option maxHeartbeats 1000000 in
theorem rreads_00 (n : Nat) (d a b m : Int) (s : ByteArray) (w : World) (h : n < 34) (ca : sa (fm n) = false) (cb : sb (fm n) = false) : Calls Tryz.prog 75 #[.agg #[.int .i64 n, .int .i64 d, .int .i64 a, .int .i64 b, .int .i64 m, .string s]] w (NumsPost (readsL (fm n) a b) w) := by
  have hf := fm_lt h
  have RL := Lib.hid (show readsL (fm n) a b = [] by unfold readsL; rw [ca, cb]; rfl)
  go_enter Tryz.func75, Tryz.ntmps75
  go_wp2_with fail
  refine (rform_any _ _ h).mono ?_
  rintro e w1 ⟨rfl, hb⟩
  obtain ⟨q, hz, hB⟩ := box_cells hb
  have k2 : w1.cell? ⟨w.heap.size, 2, none⟩ = some (.int .i64 a) := q 2
  have k3 : w1.cell? ⟨w.heap.size, 3, none⟩ = some (.int .i64 b) := q 3
  have HB := Lib.hid hB
  clear q hb hB
  go_wp2_with (first | (go_at_call 91; refine (hasA_any _ _ hf).mono ?_; rintro e w' ⟨rfl, rfl⟩) | (go_at_call 92; refine (hasB_any _ _ hf).mono ?_; rintro e w' ⟨rfl, rfl⟩))
  go_ret
  exact ⟨_, rfl, by rw [RL.out]; exact World.ownsRow_nil _ _ _ _, HB.out⟩
set_option maxHeartbeats 1000000 in
theorem rreads_01 (n : Nat) (d a b m : Int) (s : ByteArray) (w : World) (h : n < 34) (ca : sa (fm n) = false) (cb : sb (fm n) = true) : Calls Tryz.prog 75 #[.agg #[.int .i64 n, .int .i64 d, .int .i64 a, .int .i64 b, .int .i64 m, .string s]] w (NumsPost (readsL (fm n) a b) w) := by
  have hf := fm_lt h
  have RL := Lib.hid (show readsL (fm n) a b = [b] by unfold readsL; rw [ca, cb]; rfl)
  go_enter Tryz.func75, Tryz.ntmps75
  go_wp2_with fail
  refine (rform_any _ _ h).mono ?_
  rintro e w1 ⟨rfl, hb⟩
  obtain ⟨q, hz, hB⟩ := box_cells hb
  have k2 : w1.cell? ⟨w.heap.size, 2, none⟩ = some (.int .i64 a) := q 2
  have k3 : w1.cell? ⟨w.heap.size, 3, none⟩ = some (.int .i64 b) := q 3
  have HB := Lib.hid hB
  clear q hb hB
  go_wp2_with (first | (go_at_call 91; refine (hasA_any _ _ hf).mono ?_; rintro e w' ⟨rfl, rfl⟩) | (go_at_call 92; refine (hasB_any _ _ hf).mono ?_; rintro e w' ⟨rfl, rfl⟩) | (at_builtin; refine app_one 24 3 8 (.int .i64 0) Tryz.info3 rfl (by decide) Tryz.underlying24 (by rfl) _ _ (by rfl) _ w1.heap.size 0 _ _ [] (by rfl) (World.ownsRow_nil _ _ _ _) (by decide) (by rfl) _ (by rfl) (by simp) ?hb ?_))
  case hb => exact Nat.le_refl _
  intro v' w3 hown hg
  have hbl := app_below (base := w1.heap.size) (e := 3) (World.ownsRow_nil _ _ _ _) hg (Nat.le_refl _)
  have HO := Lib.hid hown
  have HB2 := Lib.hid (HB.out.trans (hbl.mono (by omega)))
  clear hown hg hbl
  go_wp2_with (go_at_call 92; refine (hasB_any _ _ hf).mono ?_; rintro e w' ⟨rfl, rfl⟩)
  go_ret
  exact ⟨v', rfl, by rw [RL.out]; exact own_le HO.out (by omega), HB2.out⟩
set_option maxHeartbeats 1000000 in
theorem rreads_10 (n : Nat) (d a b m : Int) (s : ByteArray) (w : World) (h : n < 34) (ca : sa (fm n) = true) (cb : sb (fm n) = false) : Calls Tryz.prog 75 #[.agg #[.int .i64 n, .int .i64 d, .int .i64 a, .int .i64 b, .int .i64 m, .string s]] w (NumsPost (readsL (fm n) a b) w) := by
  have hf := fm_lt h
  have RL := Lib.hid (show readsL (fm n) a b = [a] by unfold readsL; rw [ca, cb]; rfl)
  go_enter Tryz.func75, Tryz.ntmps75
  go_wp2_with fail
  refine (rform_any _ _ h).mono ?_
  rintro e w1 ⟨rfl, hb⟩
  obtain ⟨q, hz, hB⟩ := box_cells hb
  have k2 : w1.cell? ⟨w.heap.size, 2, none⟩ = some (.int .i64 a) := q 2
  have k3 : w1.cell? ⟨w.heap.size, 3, none⟩ = some (.int .i64 b) := q 3
  have HB := Lib.hid hB
  clear q hb hB
  go_wp2_with (first | (go_at_call 91; refine (hasA_any _ _ hf).mono ?_; rintro e w' ⟨rfl, rfl⟩) | (go_at_call 92; refine (hasB_any _ _ hf).mono ?_; rintro e w' ⟨rfl, rfl⟩) | (at_builtin; refine app_one 24 3 8 (.int .i64 0) Tryz.info3 rfl (by decide) Tryz.underlying24 (by rfl) _ _ (by rfl) _ w1.heap.size 0 _ _ [] (by rfl) (World.ownsRow_nil _ _ _ _) (by decide) (by rfl) _ (by rfl) (by simp) ?hb ?_))
  case hb => exact Nat.le_refl _
  intro v' w3 hown hg
  have hbl := app_below (base := w1.heap.size) (e := 3) (World.ownsRow_nil _ _ _ _) hg (Nat.le_refl _)
  have HO := Lib.hid hown
  have HB2 := Lib.hid (HB.out.trans (hbl.mono (by omega)))
  clear hown hg hbl
  go_wp2_with (go_at_call 92; refine (hasB_any _ _ hf).mono ?_; rintro e w' ⟨rfl, rfl⟩)
  go_ret
  exact ⟨v', rfl, by rw [RL.out]; exact own_le HO.out (by omega), HB2.out⟩
set_option maxHeartbeats 1000000 in
theorem rreads_11 (n : Nat) (d a b m : Int) (s : ByteArray) (w : World) (h : n < 34) (ca : sa (fm n) = true) (cb : sb (fm n) = true) : Calls Tryz.prog 75 #[.agg #[.int .i64 n, .int .i64 d, .int .i64 a, .int .i64 b, .int .i64 m, .string s]] w (NumsPost (readsL (fm n) a b) w) := by
  have hf := fm_lt h
  have RL := Lib.hid (show readsL (fm n) a b = [a, b] by unfold readsL; rw [ca, cb]; rfl)
  go_enter Tryz.func75, Tryz.ntmps75
  go_wp2_with fail
  refine (rform_any _ _ h).mono ?_
  rintro e w1 ⟨rfl, hb⟩
  obtain ⟨q, hz, hB⟩ := box_cells hb
  have k2 : w1.cell? ⟨w.heap.size, 2, none⟩ = some (.int .i64 a) := q 2
  have k3 : w1.cell? ⟨w.heap.size, 3, none⟩ = some (.int .i64 b) := q 3
  have HB := Lib.hid hB
  clear q hb hB
  go_wp2_with (first | (go_at_call 91; refine (hasA_any _ _ hf).mono ?_; rintro e w' ⟨rfl, rfl⟩) | (at_builtin; refine app_one 24 3 8 (.int .i64 0) Tryz.info3 rfl (by decide) Tryz.underlying24 (by rfl) _ _ (by rfl) _ w1.heap.size 0 _ _ [] (by rfl) (World.ownsRow_nil _ _ _ _) (by decide) (by rfl) _ (by rfl) (by simp) ?hb ?_))
  case hb => exact Nat.le_refl _
  intro v' w3 hown hg
  have hbl := app_below (base := w1.heap.size) (e := 3) (World.ownsRow_nil _ _ _ _) hg (Nat.le_refl _)
  have HO := Lib.hid hown
  have HB2 := Lib.hid (HB.out.trans (hbl.mono (by omega)))
  have hz3 : w1.heap.size ≤ w3.heap.size := hbl.size
  have l3 : w3.cell? ⟨w.heap.size, 3, none⟩ = some (.int .i64 b) := (hbl.cell (p := ⟨w.heap.size, 3, none⟩) hz).trans k3
  clear hown hg hbl
  go_wp2_with (first | (go_at_call 92; refine (hasB_any _ _ hf).mono ?_; rintro e w' ⟨rfl, rfl⟩) | (at_builtin; refine app_one 24 3 8 (.int .i64 0) Tryz.info3 rfl (by decide) Tryz.underlying24 (by rfl) _ _ (by rfl) _ w1.heap.size 1 _ _ _ (by rfl) HO.out (by decide) (by rfl) _ (by rfl) (by simp) ?hb ?_))
  case hb => exact hz3
  intro v2 w4 hown hg
  have hbl := app_below HO.out hg hz3
  go_wp2
  go_ret
  exact ⟨v2, rfl, by rw [RL.out]; exact own_le hown (by omega), HB2.out.trans (hbl.mono (by omega))⟩

theorem rreads_any (n : Nat) (d a b m : Int) (s : ByteArray) (w : World) (h : n < 34) : Calls Tryz.prog 75 #[.agg #[.int .i64 n, .int .i64 d, .int .i64 a, .int .i64 b, .int .i64 m, .string s]] w (NumsPost (readsL (fm n) a b) w) := by
  cases ca : sa (fm n)
  · cases cb : sb (fm n)
    · exact rreads_00 n d a b m s w h ca cb
    · exact rreads_01 n d a b m s w h ca cb
  · cases cb : sb (fm n)
    · exact rreads_10 n d a b m s w h ca cb
    · exact rreads_11 n d a b m s w h ca cb
end
end
section
/-- The registers that an instruction reads. -/
def rds (x : In5) : List Nat := (if sa (fm x.o) then [x.a] else []) ++ (if sb (fm x.o) then [x.b] else [])
/-- Does something fly to a register? -/
def fliesTo (fl : List Fl) (r : Nat) : Bool := fl.any fun f => f.r == r
/-- Is a slot a hazard, behind slots that write these? -/
def hz1 (dl : Nat) (fl : List Fl) (wr : List Nat) (x : In5) : Bool :=
  (decide (28 ≤ x.o) && decide (0 < dl)) || (rds x).any (fliesTo fl) || (sd (fm x.o) && (fliesTo fl x.d || wr.contains x.d))
def wrs (x : In5) (wr : List Nat) : List Nat := if sd (fm x.o) then x.d :: wr else wr
/-- The first slot that is a hazard, counted from i; -1: none. -/
def hz (dl : Nat) (fl : List Fl) : Nat → List Nat → List In5 → Int
  | _, _, [] => -1
  | i, wr, x :: l => if hz1 dl fl wr x then i else hz dl fl (i + 1) (wrs x wr) l
/-- The first hazard of the bundle that comes, in a state behind what has landed. -/
def fnd (C : List (List In5)) (m : M) : Int := if C.length ≤ m.pc then -1 else hz m.dl m.fl 0 [] (C.getD m.pc [])
/-- The first hazard, in any state. -/
def hfind (C : List (List In5)) (m : M) : Int := if m.stop = 0 then fnd C (land m) else -1
/-- A cycle that looks. -/
def hcyc (C : List (List In5)) (m : M) : M := if 0 ≤ fnd C (land m) then stop (land m) 6 else cyc C m
/-- Up to so many, and how many they were. -/
def runH (C : List (List In5)) : Nat → M → M × Nat
  | 0, m => (m, 0)
  | n + 1, m => if m.stop = 0 then ((runH C n (hcyc C m)).1, (runH C n (hcyc C m)).2 + 1) else (m, 0)
section
variable {C : List (List In5)} {m m0 : M} {n i : Nat} {dl : Nat} {fl : List Fl} {wr : List Nat} {x : In5} {l : List In5}
theorem hz_range (i : Nat) (wr : List Nat) (l : List In5) : hz dl fl i wr l = -1 ∨ ((i : Int) ≤ hz dl fl i wr l ∧ hz dl fl i wr l < i + l.length) := by
  induction l generalizing i wr with
  | nil => exact .inl rfl
  | cons x l ih =>
    unfold hz
    split
    · right; simp only [List.length_cons]; omega
    · rcases ih (i + 1) (wrs x wr) with h | h
      · exact .inl h
      · right; simp only [List.length_cons]; omega
theorem runH_stop (h : m.stop ≠ 0) : runH C n m = (m, 0) := by
  cases n with
  | zero => rfl
  | succ n => unfold runH; rw [if_neg h]
theorem runH_go (h : m.stop = 0) : runH C (n + 1) m = ((runH C n (hcyc C m)).1, (runH C n (hcyc C m)).2 + 1) := by
  rw [runH, if_pos h]
/-- A landing alone: what a cycle without code does, but for its stop. -/
theorem cyc_nil (m : M) : cyc [] m = stop (land m) 5 := by unfold cyc; exact if_pos (Nat.zero_le _)
/-- A good state, landed and stopped, is good. -/
theorem Okc.stopped (h : Okc m) {k : Int} (h0 : 0 ≤ k) (h6 : k ≤ 6) : Okc (stop m k) := by
  refine { ok := { h.ok with }, fb := h.fb, s0 := h0, s6 := h6 }
end
end
section
/-- To which registers something flies. -/
def fla (fl : List Fl) : Array Value := ((List.range 16).map fun r => Value.bool (fliesTo fl r)).toArray
theorem fla_at {fl : List Fl} {r : Nat} (h : r < 16) : (fla fl)[r]? = some (.bool (fliesTo fl r)) := by simp [fla, h]
theorem fla_size (fl : List Fl) : (fla fl).size = 16 := by simp [fla]
theorem clo_any (fl : List Fl) (q r : Nat) (w : World) (hb : BK 94 w q (fla fl)) (hr : r < 16) : Calls Tryz.prog 98 #[.int .i64 r, .pointer (some ⟨q, 0, none⟩)] w (BoolPost (fliesTo fl r) w) := by
  have k : w.cell? ⟨q, r, none⟩ = some (.bool (fliesTo fl r)) := (hb.cell r).trans (fla_at hr)
  have i0 : (0 : Int) ≤ (r : Int) := by omega
  have i1 : (r : Int) < 16 := by omega
  clear hb
  generalize fliesTo fl r = b at *
  go_enter Tryz.func98, Tryz.ntmps98
  go_wp2
  go_ret
  exact ⟨rfl, rfl⟩
set_option maxRecDepth 20000 in
set_option maxHeartbeats 2000000 in
theorem ix_any (fl : List Fl) (q : Nat) (l : List Nat) (v : Value) (w : World) (h : Nums w v (l.map Int.ofNat)) (hb : BK 94 w q (fla fl)) (hl : l.length ≤ 100) (hr : ∀ r ∈ l, r < 16) : Calls Tryz.prog 100 #[v, .func (.func 98) #[] #[.pointer (some ⟨q, 0, none⟩)]] w (InPost (l.any (fliesTo fl)) w) := by
  obtain ⟨A, c, rfl, r⟩ := h
  rw [List.length_map] at r ⊢
  have R := Lib.hid r
  have C := Lib.hid (fun r h W (e : W = w) => clo_any fl q r W (by rw [e]; exact hb) (hr r h))
  clear r hb hr
  generalize hn : l.length = n at *
  have HN := Lib.hid hn
  clear hn
  go_enter Tryz.func100, Tryz.ntmps100
  go_wp2
  go_loop [8] (fun o => ∃ i : Nat, i ≤ n ∧ o = .int .i64 i ∧ (l.take i).any (fliesTo fl) = false) (fun o => n - (intOf o).toNat)
  case atStart => exact ⟨0, by omega, rfl, by simp⟩
  case round =>
    obtain ⟨i, hi, rfl, hx⟩ := hrel
    have HX := Lib.hid hx
    clear hx
    by_cases hlt : i < n
    · have hd : decide ((i : Int) < (n : Int)) = true := by simpa using hlt
      have i0 : (0 : Int) ≤ (i : Int) := by omega
      have i1 : (i : Int) < (n : Int) := by omega
      obtain ⟨g, rfl, hg, qq⟩ := R.out (by omega)
      have hil : i < l.length := by have := HN.out; omega
      have k1 := qq i ((l[i] : Nat) : Int) (by rw [List.getElem?_map, at_get hil]; rfl)
      have T := Lib.hid (List.take_succ_eq_append_getElem hil)
      have CC := Lib.hid (fun W e => C.out l[i] (List.getElem_mem hil) W e)
      generalize l[i] = z at k1 T CC
      clear qq hg hil
      cases hz : fliesTo fl z
      · have HZ := Lib.hid hz
        rw [hz] at CC
        clear hz
        go_wp2_with (go_at_call 98; refine (CC.out _ rfl).mono ?_; rintro e w' ⟨rfl, rfl⟩)
        go_round
        case rel => exact ⟨i + 1, by omega, by go_num, by rw [T.out, List.any_append, HX.out]; simp [HZ.out]⟩
        case measure => simp [intOf]; omega
      · have HZ := Lib.hid hz
        rw [hz] at CC
        clear hz
        go_wp2_with (go_at_call 98; refine (CC.out _ rfl).mono ?_; rintro e w' ⟨rfl, rfl⟩)
        go_ret
        refine ⟨i, ?_, rfl, rfl⟩
        have h1 : l.any (fliesTo fl) = true := by
          rw [← List.take_append_drop (i + 1) l, List.any_append, T.out, List.any_append]
          simp [HZ.out]
        rw [h1]
        simp
    · have hd : decide ((i : Int) < (n : Int)) = false := by simp; omega
      go_wp2
      go_ret
      refine ⟨-1, ?_, rfl, rfl⟩
      have h1 := HX.out
      rw [List.take_of_length_le (by have := HN.out; omega)] at h1
      rw [h1]
      rfl
set_option maxRecDepth 20000 in
set_option maxHeartbeats 2000000 in
theorem cont_any (fl : List Fl) (q : Nat) (l : List Nat) (v : Value) (w : World) (h : Nums w v (l.map Int.ofNat)) (hb : BK 94 w q (fla fl)) (hl : l.length ≤ 100) (hr : ∀ r ∈ l, r < 16) : Calls Tryz.prog 83 #[v, .func (.func 98) #[] #[.pointer (some ⟨q, 0, none⟩)]] w (BoolPost (l.any (fliesTo fl)) w) := by
  have P := Lib.hid (fun W (e : W = w) => ix_any fl q l v W (by rw [e]; exact h) (by rw [e]; exact hb) hl hr)
  obtain ⟨A, n, c, rfl⟩ : ∃ A n c, v = .slice A n c := by obtain ⟨A, c, rfl, _⟩ := h; exact ⟨_, _, _, rfl⟩
  clear h hb hl hr
  go_enter Tryz.func83, Tryz.ntmps83
  go_wp2_with fail
  refine (P.out _ rfl).mono ?_
  rintro e w' ⟨z, hz, rfl, rfl⟩
  go_wp2
  go_ret
  exact bool_mk rfl
theorem rds_list (x : In5) : readsL (fm x.o) x.a x.b = (rds x).map Int.ofNat := by
  unfold readsL rds
  cases sa (fm x.o) <;> cases sb (fm x.o) <;> rfl
theorem rds_len (x : In5) : (rds x).length ≤ 100 := by
  unfold rds
  cases sa (fm x.o) <;> cases sb (fm x.o) <;> simp
theorem rds_lt {x : In5} (ha : x.a < 16) (hb : x.b < 16) : ∀ r ∈ rds x, r < 16 := by
  intro r h
  unfold rds at h
  cases sa (fm x.o) <;> cases sb (fm x.o) <;> simp at h <;> omega
set_option maxRecDepth 20000 in
set_option maxHeartbeats 2000000 in
theorem hreads_any (x : In5) (fl : List Fl) (w : World) (v : Vi x) (ha : x.a < 16) (hb : x.b < 16) (T : Tab w) : Calls Tryz.prog 80 #[.agg x.cells, .agg (fla fl)] w (BoolBelow ((rds x).any (fliesTo fl)) w) := by
  have X0 := Lib.hid (show BK 55 ((w.alloc (.cells #[.int .i64 x.o, .int .i64 x.d, .int .i64 x.a, .int .i64 x.b, .int .i64 x.m, .string ByteArray.empty] 55)).alloc (.cells (fla fl) 94)) w.heap.size #[.int .i64 x.o, .int .i64 x.d, .int .i64 x.a, .int .i64 x.b, .int .i64 x.m, .string ByteArray.empty] from BK.alloc (heap_alloc_new w _) _)
  have F0 := Lib.hid (show BK 94 ((w.alloc (.cells #[.int .i64 x.o, .int .i64 x.d, .int .i64 x.a, .int .i64 x.b, .int .i64 x.m, .string ByteArray.empty] 55)).alloc (.cells (fla fl) 94)) (w.heap.size + 1) (fla fl) from BK.new (by simp))
  have G0 := Lib.hid (below_two w (.cells #[.int .i64 x.o, .int .i64 x.d, .int .i64 x.a, .int .i64 x.b, .int .i64 x.m, .string ByteArray.empty] 55) (.cells (fla fl) 94))
  have RD := Lib.hid (fun W (hb : Below w.heap.size w W) => reads_good x.o x.d x.a x.b x.m ByteArray.empty W v.1 (T.below hb) (by decide) v.2)
  have CN := Lib.hid (fun q V W h1 h2 => cont_any fl q (rds x) V W h1 h2 (rds_len x) (rds_lt ha hb))
  have RL := Lib.hid (rds_list x)
  clear v ha hb T
  go_enter Tryz.func80, Tryz.ntmps80
  simp only [In5.cells]
  go_wp2_with fail
  generalize ((w.alloc (.cells #[.int .i64 x.o, .int .i64 x.d, .int .i64 x.a, .int .i64 x.b, .int .i64 x.m, .string ByteArray.empty] 55)).alloc (.cells (fla fl) 94)) = W0 at *
  refine (RD.out _ G0.out).mono ?_
  rintro e w1 ⟨vv, rfl, own, b1⟩
  rw [RL.out] at own
  have F1 := Lib.hid (F0.out.below b1)
  have N1 := Lib.hid (RowAt.of_own own)
  have G1 := Lib.hid (G0.out.trans (b1.mono G0.out.size))
  obtain ⟨A, n, c, rfl⟩ : ∃ A n c, vv = .slice A n c := by obtain ⟨A, c, rfl, _⟩ := RowAt.of_own own; exact ⟨_, _, _, rfl⟩
  clear own b1
  go_wp2_with fail
  refine (CN.out _ _ _ N1.out F1.out).mono ?_
  rintro e w2 ⟨rfl, rfl⟩
  go_wp2
  go_ret
  exact ⟨rfl, G1.out⟩
end
end Go.Proofs.YtbgmdikcbglpiaaGreatDoor
