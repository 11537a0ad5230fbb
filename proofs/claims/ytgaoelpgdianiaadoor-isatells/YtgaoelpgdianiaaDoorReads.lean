/-
  Which registers an instruction reads and writes, as the program and the page tell: the same; only new memory is made. Conditions: the tables lie in the world; the op is from 0 to 33.
-/
import Derived.Test.YtgaoelpgdianiaaDoorRefIns
namespace Go.Proofs.YtgaoelpgdianiaaDoor
open Go.RowKit

theorem Tryd.info3 : (Tryd.prog.info? 3).map (fun i => (i.zero, i.size, i.bytes)) = some (some (.int .i64 0), 1, 8) := by kernel_rfl
theorem Tryd.info9 : (Tryd.prog.info? 9).map (fun i => (i.zero, i.size, i.bytes)) = some (some (.string ⟨#[]⟩), 1, 16) := by kernel_rfl
/-- append of one element to a row of the call's own. -/
theorem app_one (t e : TypeId) (bytes : Nat) (z : Value) (hinfo : (Tryd.prog.info? e).map (fun i => (i.zero, i.size, i.bytes)) = some (some z, 1, bytes)) (hzs : z.cells.size = 1) (hby : bytes ≤ 16) (ht : Tryd.prog.underlying t = some (.slice e))
    {ops : Array Oper} {rest : List Oper} {o : Oper} {a : Act} {Q : Exit → Act → World → Prop} (hgd : o.guard = none) (s x : Operand) (ho : o.op = .call { callee := .builtin .append, args := #[s, x], argTypes := #[t, t] })
    (W : World) (base n : Nat) (v u : Value) (xs : List Value) (hs : a.eval s = v) (hown : W.ownsRow base e 1 v n xs) (hn : n ≤ 1000) (hu : u.oneCell' = true) (g : Nat) (hx : a.eval x = .slice (some ⟨g, 0, none⟩) 1 1) (hg0 : W.heap.size = g) (hbase : base ≤ W.heap.size)
    (h : ∀ v' w', w'.ownsRow base e 1 v' (n + 1) (xs ++ [u]) → (W.alloc (.cells #[u] e)).grownBy w' v.ownBlock → wpList Tryd.prog ops Q rest (a.put o.dst v') w') :
    wpList Tryd.prog ops Q (o :: rest) a (W.alloc (.cells #[u] e)) := by
  subst hg0
  obtain ⟨i, hi, he⟩ := Option.map_eq_some_iff.1 hinfo
  simp only [Prod.mk.injEq] at he
  refine wpList_append_own _ hgd s x t ho base e i z 1 bytes ht hi he.1 he.2.1 he.2.2 hzs (by decide) v n xs hs (hown.alloc _) ⟨W.heap.size, 0, none⟩ 1 1 [u] hx rfl ?_ (fun y hy => by simp at hy; subst hy; exact hu) ?_ ?_ (by simp; omega) (fun v' w' h1 h2 _ => h v' w' h1 h2)
  · exact (World.ownsRow_lit (base := 0) (e := e) (size := 1) W #[u] 1 (by simp) (by unfold maxLen; omega) rfl).cells rfl
  · unfold maxLen; omega
  · have : (n + 1) * bytes ≤ 1001 * 16 := Nat.mul_le_mul (by omega) hby
    omega
theorem app_below {W w' : World} {base e n : Nat} {v : Value} {xs : List Value} {ob : Obj} (hown : W.ownsRow base e 1 v n xs) (hg : (W.alloc ob).grownBy w' v.ownBlock) (hbase : base ≤ W.heap.size) : Below base W w' :=
  ((Below.refl base W).alloc hbase _).grown hg (by simp; omega) (fun k hk => (hown.lt k hk).1)
theorem own_le {w : World} {base base' e n : Nat} {v : Value} {xs : List Value} (h : w.ownsRow base e 1 v n xs) (hb : base' ≤ base) : w.ownsRow base' e 1 v n xs := Go.Joins.ownsRow_le h hb

def NumsPost (zs : List Int) (w : World) (e : Ending) (w' : World) : Prop := ∃ v, e = .returned v ∧ w'.ownsRow w.heap.size 3 1 v zs.length (zs.map (Value.int .i64)) ∧ Below w.heap.size w w'
/-- What an instruction reads. -/
def readsL (f : Nat) (a b : Int) : List Int := (if sa f then [a] else []) ++ (if sb f then [b] else [])
theorem readsL_le (f : Nat) (a b : Int) : (readsL f a b).length ≤ 2 := by unfold readsL; cases sa f <;> cases sb f <;> simp
set_option maxHeartbeats 1000000 in
theorem readsOf_00 (n : Nat) (d a b m : Int) (s : ByteArray) (w : World) (h : n < 34) (H : Tab w) (ca : sa (fm n) = false) (cb : sb (fm n) = false) : Calls Tryd.prog 47 #[.agg #[.int .i64 n, .int .i64 d, .int .i64 a, .int .i64 b, .int .i64 m, .string s]] w (NumsPost (readsL (fm n) a b) w) := by
  have T := Lib.hid H
  have RL := Lib.hid (show readsL (fm n) a b = [] by unfold readsL; rw [ca, cb]; rfl)
  clear H
  go_enter Tryd.func47, Tryd.ntmps47
  go_wp2_with fail
  refine (shape_any _ _ h (T.out.alloc _)).mono ?_
  rintro e w1 ⟨rfl, hb⟩
  rw [ca, cb]
  obtain ⟨q, hz, hB⟩ := box_cells hb
  have k2 : w1.cell? ⟨w.heap.size, 2, none⟩ = some (.int .i64 a) := q 2
  have k3 : w1.cell? ⟨w.heap.size, 3, none⟩ = some (.int .i64 b) := q 3
  have HB := Lib.hid hB
  clear q hb hB ca cb
  go_wp2
  go_ret
  exact ⟨_, rfl, by rw [RL.out]; exact World.ownsRow_nil _ _ _ _, HB.out.alloc (by omega) _⟩
set_option maxHeartbeats 1000000 in
theorem readsOf_01 (n : Nat) (d a b m : Int) (s : ByteArray) (w : World) (h : n < 34) (H : Tab w) (ca : sa (fm n) = false) (cb : sb (fm n) = true) : Calls Tryd.prog 47 #[.agg #[.int .i64 n, .int .i64 d, .int .i64 a, .int .i64 b, .int .i64 m, .string s]] w (NumsPost (readsL (fm n) a b) w) := by
  have T := Lib.hid H
  have RL := Lib.hid (show readsL (fm n) a b = [b] by unfold readsL; rw [ca, cb]; rfl)
  clear H
  go_enter Tryd.func47, Tryd.ntmps47
  go_wp2_with fail
  refine (shape_any _ _ h (T.out.alloc _)).mono ?_
  rintro e w1 ⟨rfl, hb⟩
  rw [ca, cb]
  obtain ⟨q, hz, hB⟩ := box_cells hb
  have k2 : w1.cell? ⟨w.heap.size, 2, none⟩ = some (.int .i64 a) := q 2
  have k3 : w1.cell? ⟨w.heap.size, 3, none⟩ = some (.int .i64 b) := q 3
  have HB := Lib.hid hB
  clear q hb hB ca cb
  go_wp2_with (at_builtin; refine app_one 31 3 8 (.int .i64 0) Tryd.info3 rfl (by decide) Tryd.underlying31 (by rfl) _ _ (by rfl) _ (w1.heap.size + 1) 0 _ _ [] (by rfl) (World.ownsRow_nil _ _ _ _) (by decide) (by rfl) _ (by rfl) (by simp) ?hb ?_)
  case hb => simp
  intro v' w3 hown hg
  have hbl := app_below (base := w1.heap.size + 1) (e := 3) (World.ownsRow_nil _ _ _ _) hg (by simp)
  have HO := Lib.hid hown
  have HL := Lib.hid hbl
  have HB2 := Lib.hid ((HB.out.alloc (by omega) _).trans (hbl.mono (by omega)))
  have l0 : w3.cell? ⟨w1.heap.size, 2, none⟩ = some (.bool true) := (hbl.cell (p := ⟨w1.heap.size, 2, none⟩) (by simp)).trans (by simp [go_sem])
  clear hown hg hbl
  go_wp2
  go_ret
  exact ⟨v', rfl, by rw [RL.out]; exact own_le HO.out (by omega), HB2.out⟩
set_option maxHeartbeats 1000000 in
theorem readsOf_10 (n : Nat) (d a b m : Int) (s : ByteArray) (w : World) (h : n < 34) (H : Tab w) (ca : sa (fm n) = true) (cb : sb (fm n) = false) : Calls Tryd.prog 47 #[.agg #[.int .i64 n, .int .i64 d, .int .i64 a, .int .i64 b, .int .i64 m, .string s]] w (NumsPost (readsL (fm n) a b) w) := by
  have T := Lib.hid H
  have RL := Lib.hid (show readsL (fm n) a b = [a] by unfold readsL; rw [ca, cb]; rfl)
  clear H
  go_enter Tryd.func47, Tryd.ntmps47
  go_wp2_with fail
  refine (shape_any _ _ h (T.out.alloc _)).mono ?_
  rintro e w1 ⟨rfl, hb⟩
  rw [ca, cb]
  obtain ⟨q, hz, hB⟩ := box_cells hb
  have k2 : w1.cell? ⟨w.heap.size, 2, none⟩ = some (.int .i64 a) := q 2
  have k3 : w1.cell? ⟨w.heap.size, 3, none⟩ = some (.int .i64 b) := q 3
  have HB := Lib.hid hB
  clear q hb hB ca cb
  go_wp2_with (at_builtin; refine app_one 31 3 8 (.int .i64 0) Tryd.info3 rfl (by decide) Tryd.underlying31 (by rfl) _ _ (by rfl) _ (w1.heap.size + 1) 0 _ _ [] (by rfl) (World.ownsRow_nil _ _ _ _) (by decide) (by rfl) _ (by rfl) (by simp) ?hb ?_)
  case hb => simp
  intro v' w3 hown hg
  have hbl := app_below (base := w1.heap.size + 1) (e := 3) (World.ownsRow_nil _ _ _ _) hg (by simp)
  have HO := Lib.hid hown
  have HL := Lib.hid hbl
  have HB2 := Lib.hid ((HB.out.alloc (by omega) _).trans (hbl.mono (by omega)))
  have l0 : w3.cell? ⟨w1.heap.size, 2, none⟩ = some (.bool false) := (hbl.cell (p := ⟨w1.heap.size, 2, none⟩) (by simp)).trans (by simp [go_sem])
  clear hown hg hbl
  go_wp2
  go_ret
  exact ⟨v', rfl, by rw [RL.out]; exact own_le HO.out (by omega), HB2.out⟩
set_option maxHeartbeats 1000000 in
theorem readsOf_11 (n : Nat) (d a b m : Int) (s : ByteArray) (w : World) (h : n < 34) (H : Tab w) (ca : sa (fm n) = true) (cb : sb (fm n) = true) : Calls Tryd.prog 47 #[.agg #[.int .i64 n, .int .i64 d, .int .i64 a, .int .i64 b, .int .i64 m, .string s]] w (NumsPost (readsL (fm n) a b) w) := by
  have T := Lib.hid H
  have RL := Lib.hid (show readsL (fm n) a b = [a, b] by unfold readsL; rw [ca, cb]; rfl)
  clear H
  go_enter Tryd.func47, Tryd.ntmps47
  go_wp2_with fail
  refine (shape_any _ _ h (T.out.alloc _)).mono ?_
  rintro e w1 ⟨rfl, hb⟩
  rw [ca, cb]
  obtain ⟨q, hz, hB⟩ := box_cells hb
  have k2 : w1.cell? ⟨w.heap.size, 2, none⟩ = some (.int .i64 a) := q 2
  have k3 : w1.cell? ⟨w.heap.size, 3, none⟩ = some (.int .i64 b) := q 3
  have HB := Lib.hid hB
  clear q hb hB ca cb
  go_wp2_with (at_builtin; refine app_one 31 3 8 (.int .i64 0) Tryd.info3 rfl (by decide) Tryd.underlying31 (by rfl) _ _ (by rfl) _ (w1.heap.size + 1) 0 _ _ [] (by rfl) (World.ownsRow_nil _ _ _ _) (by decide) (by rfl) _ (by rfl) (by simp) ?hb ?_)
  case hb => simp
  intro v' w3 hown hg
  have hbl := app_below (base := w1.heap.size + 1) (e := 3) (World.ownsRow_nil _ _ _ _) hg (by simp)
  have HO := Lib.hid hown
  have HL := Lib.hid hbl
  have HB2 := Lib.hid ((HB.out.alloc (by omega) _).trans (hbl.mono (by omega)))
  have hz3 : w1.heap.size + 1 ≤ w3.heap.size := by have := hbl.size; simp at this; omega
  have l0 : w3.cell? ⟨w1.heap.size, 2, none⟩ = some (.bool true) := (hbl.cell (p := ⟨w1.heap.size, 2, none⟩) (by simp)).trans (by simp [go_sem])
  have l3 : w3.cell? ⟨w.heap.size, 3, none⟩ = some (.int .i64 b) := (hbl.cell (p := ⟨w.heap.size, 3, none⟩) (by simp; omega)).trans (by simp [go_sem, hz, k3])
  clear hown hg hbl
  go_wp2_with (at_builtin; refine app_one 31 3 8 (.int .i64 0) Tryd.info3 rfl (by decide) Tryd.underlying31 (by rfl) _ _ (by rfl) _ (w1.heap.size + 1) 1 _ _ _ (by rfl) HO.out (by decide) (by rfl) _ (by rfl) (by simp) ?hb ?_)
  case hb => exact hz3
  intro v2 w4 hown hg
  have hbl := app_below HO.out hg hz3
  go_wp2
  go_ret
  exact ⟨v2, rfl, by rw [RL.out]; exact own_le hown (by omega), HB2.out.trans (hbl.mono (by omega))⟩

theorem readsOf_any (n : Nat) (d a b m : Int) (s : ByteArray) (w : World) (h : n < 34) (H : Tab w) : Calls Tryd.prog 47 #[.agg #[.int .i64 n, .int .i64 d, .int .i64 a, .int .i64 b, .int .i64 m, .string s]] w (NumsPost (readsL (fm n) a b) w) := by
  cases ca : sa (fm n)
  · cases cb : sb (fm n)
    · exact readsOf_00 n d a b m s w h H ca cb
    · exact readsOf_01 n d a b m s w h H ca cb
  · cases cb : sb (fm n)
    · exact readsOf_10 n d a b m s w h H ca cb
    · exact readsOf_11 n d a b m s w h H ca cb
end Go.Proofs.YtgaoelpgdianiaaDoor
