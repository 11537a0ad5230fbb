/-
  A machine's state as plain Lean data, and what it means that it lies in the world behind a pointer: its block, and six rows of its own, apart from one another. How it stays so where memory only grows, and what a store into it does. No condition.
-/
import Derived.Test.YtbgmdikcbglpiaaGreatDoorRefIns
import Derived.Test.YtbgmdikcbglpiaaGreatDoorLists
import Derived.Deep.AppendLies
import Derived.Lib.SmallJoins
namespace Go.Proofs.YtbgmdikcbglpiaaGreatDoor
open Go.RowKit

/-- An instruction without a name. -/
structure In5 where
  o : Nat
  d : Nat
  a : Nat
  b : Nat
  m : Int
def In5.cells (x : In5) : Array Value := #[.int .i64 x.o, .int .i64 x.d, .int .i64 x.a, .int .i64 x.b, .int .i64 x.m, .string ByteArray.empty]
/-- A result that flies. -/
structure Fl where
  r : Nat
  v : Int
  k : Nat
/-- A state. -/
structure M where
  R : List Int
  mem : List Int
  inp : List Int
  tk : Nat
  out : List Int
  pc : Nat
  st : List Nat
  stop : Int
  fl : List Fl
  jp : Nat
  dl : Nat
/-- Where its rows lie. -/
structure Vs where
  gr : Nat
  cr : Nat
  gm : Nat
  cm : Nat
  ai : Option Addr
  ci : Nat
  ao : Option Addr
  co : Nat
  az : Option Addr
  cs : Nat
  af : Option Addr
  cf : Nat
abbrev Vs.r (V : Vs) : Value := .slice (some ⟨V.gr, 0, none⟩) 16 V.cr
abbrev Vs.m (V : Vs) : Value := .slice (some ⟨V.gm, 0, none⟩) 256 V.cm
abbrev Vs.i (V : Vs) (m : M) : Value := .slice V.ai m.inp.length V.ci
abbrev Vs.o (V : Vs) (m : M) : Value := .slice V.ao m.out.length V.co
abbrev Vs.s (V : Vs) (m : M) : Value := .slice V.az m.st.length V.cs
abbrev Vs.f (V : Vs) (m : M) : Value := .slice V.af m.fl.length V.cf
def stCells (m : M) (V : Vs) : Array Value := #[V.r, V.m, V.i m, .int .i64 m.tk, V.o m, .int .i64 m.pc, V.s m, .int .i64 m.stop, V.f m, .int .i64 m.jp, .int .i64 m.dl]
def Fl.list (f : Fl) : List Value := [.int .i64 f.r, .int .u32 f.v, .int .i64 f.k]
def flat3 (l : List Fl) : List Value := l.flatMap Fl.list
theorem flat3_len (l : List Fl) : (flat3 l).length = l.length * 3 := by
  induction l with
  | nil => rfl
  | cons a l ih => simp only [flat3, List.flatMap_cons, List.length_append, List.length_cons] at ih ⊢; rw [ih]; simp [Fl.list]; omega
theorem flat3_app (a b : List Fl) : flat3 (a ++ b) = flat3 a ++ flat3 b := by simp [flat3]
theorem flat3_at (l : List Fl) (i j : Nat) (f : Fl) (h : l[i]? = some f) (hj : j < 3) : (flat3 l)[i * 3 + j]? = f.list[j]? := by
  induction l generalizing i with
  | nil => simp at h
  | cons a l ih =>
    cases i with
    | zero =>
      simp at h
      subst h
      simp only [flat3, List.flatMap_cons]
      rw [List.getElem?_append_left (by simp [Fl.list]; omega)]
      simp
    | succ i =>
      simp at h
      have := ih i h
      simp only [flat3, List.flatMap_cons] at this ⊢
      rw [List.getElem?_append_right (by simp [Fl.list]; omega)]
      rw [← this]
      congr 1
      simp [Fl.list]
      omega
def ui : Int → Value := Value.int .u32
def ni (n : Nat) : Value := .int .i64 n
/-- The block, if any, of a slice's place. -/
def ob : Option Addr → Option Nat := fun a => a.map (·.block)
theorem own_ob (a : Option Addr) (n c : Nat) : (Value.slice a n c).ownBlock = ob a := by cases a <;> rfl
def Ap (a b : Option Nat) : Prop := ∀ k, a = some k → b ≠ some k
theorem Ap.symm {a b : Option Nat} (h : Ap a b) : Ap b a := fun k hb ha => h k ha hb

/-- The state m lies behind the pointer to block p; all of it at B or above. -/
structure SA (B : Nat) (w : World) (p : Nat) (m : M) (V : Vs) : Prop where
  blk : ∃ T, w.heap[p]? = some (.cells (stCells m V) T (0, 0))
  hp : B ≤ p
  hr : w.ownsRow B 69 1 V.r 16 (m.R.map ui)
  hm : w.ownsRow B 69 1 V.m 256 (m.mem.map ui)
  hi : w.ownsRow B 69 1 (V.i m) m.inp.length (m.inp.map ui)
  ho : w.ownsRow B 69 1 (V.o m) m.out.length (m.out.map ui)
  hs : w.ownsRow B 3 1 (V.s m) m.st.length (m.st.map ni)
  hf : w.ownsRow B 71 3 (V.f m) m.fl.length (flat3 m.fl)
  pf : ob V.af ≠ some p
  pr : V.gr ≠ p
  pm : V.gm ≠ p
  pi : ob V.ai ≠ some p
  po : ob V.ao ≠ some p
  ps : ob V.az ≠ some p
  rm : V.gr ≠ V.gm
  ri : ob V.ai ≠ some V.gr
  ro : ob V.ao ≠ some V.gr
  rs : ob V.az ≠ some V.gr
  mi : ob V.ai ≠ some V.gm
  mo : ob V.ao ≠ some V.gm
  ms : ob V.az ≠ some V.gm
  io : Ap (ob V.ai) (ob V.ao)
  is : Ap (ob V.ai) (ob V.az)
  os : Ap (ob V.ao) (ob V.az)

theorem lt_of_heap {w : World} {g : Nat} {x : Obj} (h : w.heap[g]? = some x) : g < w.heap.size := (Array.getElem?_eq_some_iff.1 h).1
theorem keep_row {w w' : World} {B e s n : Nat} {a : Option Addr} {k c : Nat} {xs : List Value} {row : Option Nat} (h : w.ownsRow B e s (.slice a k c) n xs) (hg : w.grownBy w' row) (hne : Ap row (ob a)) : w'.ownsRow B e s (.slice a k c) n xs := by
  refine h.kept hg ?_
  rw [own_ob]
  cases ha : ob a with
  | none => exact .inl rfl
  | some g => exact .inr fun e => hne g e.symm ha
theorem own_type {w : World} {B e s n : Nat} {a : Option Addr} {k c : Nat} {xs : List Value} (h : w.ownsRow B e s (.slice a k c) n xs) : ∀ g, ob a = some g → ∃ cur, w.heap[g]? = some (.cells cur e (0, 0)) := by
  intro g hg
  rcases h.2 with ⟨h', _⟩ | ⟨g', cap, cur, h', _, hgg, _⟩
  · simp only [Value.slice.injEq] at h'; rw [h'.1] at hg; cases hg
  · simp only [Value.slice.injEq] at h'; rw [h'.1] at hg; simp [ob] at hg; subst hg; exact ⟨cur, hgg⟩
/-- Rows of different element types lie apart. -/
theorem own_ap {w : World} {B e s n B' e' s' n' : Nat} {a a' : Option Addr} {k c k' c' : Nat} {xs xs' : List Value} (h : w.ownsRow B e s (.slice a k c) n xs) (h' : w.ownsRow B' e' s' (.slice a' k' c') n' xs') (he : e ≠ e') : Ap (ob a) (ob a') := by
  intro g hg hg'
  obtain ⟨c1, h1⟩ := own_type h g hg
  obtain ⟨c2, h2⟩ := own_type h' g hg'
  rw [h1] at h2
  simp only [Option.some.injEq, Obj.cells.injEq] at h2
  exact he h2.2.1
theorem ap_none (b : Option Nat) : Ap none b := fun _ h => by cases h
theorem ap_some {g : Nat} {b : Option Nat} (h : b ≠ some g) : Ap (some g) b := fun k hk => by cases hk; exact h

section
variable {B p : Nat} {w w' : World} {m : M} {V : Vs}
theorem SA.lt (h : SA B w p m V) : p < w.heap.size := by obtain ⟨T, hb⟩ := h.blk; exact lt_of_heap hb
theorem SA.cell (h : SA B w p m V) (j : Nat) : w.cell? ⟨p, j, none⟩ = (stCells m V)[j]? := by obtain ⟨T, hb⟩ := h.blk; exact cell_of_row w p j _ T (0, 0) hb
theorem SA.frozen (h : SA B w p m V) (j : Nat) : w.frozen? ⟨p, j, none⟩ = false := by obtain ⟨T, hb⟩ := h.blk; exact frozen_of_row w p j _ T hb
theorem SA.gr_lt (h : SA B w p m V) : B ≤ V.gr ∧ V.gr < w.heap.size := h.hr.lt _ rfl
theorem SA.gm_lt (h : SA B w p m V) : B ≤ V.gm ∧ V.gm < w.heap.size := h.hm.lt _ rfl
theorem SA.fr (h : SA B w p m V) : ob V.af ≠ some V.gr := fun e => own_ap h.hf h.hr (by decide) _ e rfl
theorem SA.fm (h : SA B w p m V) : ob V.af ≠ some V.gm := fun e => own_ap h.hf h.hm (by decide) _ e rfl
theorem SA.fo (h : SA B w p m V) : Ap (ob V.ao) (ob V.af) := own_ap h.ho h.hf (by decide)
theorem SA.fi (h : SA B w p m V) : Ap (ob V.ai) (ob V.af) := own_ap h.hi h.hf (by decide)
theorem SA.fs (h : SA B w p m V) : Ap (ob V.az) (ob V.af) := own_ap h.hs h.hf (by decide)
theorem SA.B_le (h : SA B w p m V) : B ≤ w.heap.size := by have := h.lt; have := h.hp; omega
/-- Where memory only grows it stays. -/
theorem SA.keep (h : SA B w p m V) (hg : w.grownBy w' none) : SA B w' p m V := by
  obtain ⟨T, hb⟩ := h.blk
  exact { h with
    blk := ⟨T, (hg.block p (lt_of_heap hb) (by simp)).trans hb⟩
    hr := keep_row h.hr hg (ap_none _), hm := keep_row h.hm hg (ap_none _), hi := keep_row h.hi hg (ap_none _), ho := keep_row h.ho hg (ap_none _), hs := keep_row h.hs hg (ap_none _), hf := keep_row h.hf hg (ap_none _) }
theorem grown_below (hb : Below w.heap.size w w') : w.grownBy w' none := ⟨hb.os, hb.tape, hb.output, hb.size, fun k hk _ => hb.block k hk⟩
theorem SA.below (h : SA B w p m V) (hb : Below w.heap.size w w') : SA B w' p m V := h.keep (grown_below hb)
theorem SA.alloc (h : SA B w p m V) (x : Obj) : SA B (w.alloc x) p m V := h.keep (World.grownBy_alloc w x none)
theorem SA.drewN (h : SA B w p m V) (n : Nat) : SA B (w.drewN n) p m V := h.keep ⟨rfl, rfl, rfl, Nat.le_refl _, fun _ _ _ => rfl⟩
theorem grown_set (w : World) (g j : Nat) (u : Value) : w.grownBy (w.setCell ⟨g, j, none⟩ u) (some g) := ⟨rfl, rfl, rfl, by simp, fun k _ hk => heap_setCell_other w ⟨g, j, none⟩ k u (fun e => hk (by simp [e]))⟩
theorem map_set (f : Int → Value) (l : List Int) (j : Nat) (x : Int) : (l.map f).set j (f x) = (l.set j x).map f := by rw [List.map_set]
theorem SA.setR (h : SA B w p m V) (d : Nat) (x : Int) : SA B (w.setCell ⟨V.gr, d, none⟩ (.int .u32 x)) p { m with R := m.R.set d x } V := by
  obtain ⟨T, hb⟩ := h.blk
  have hg := grown_set w V.gr d (.int .u32 x)
  exact { h with
    blk := ⟨T, (hg.block p (lt_of_heap hb) (by intro e; cases e; exact h.pr rfl)).trans hb⟩
    hr := by have := (h.hr.stored d (.int .u32 x)).1; rw [← map_set]; exact this
    hm := keep_row h.hm hg (ap_some (by simp [ob]; exact fun e => h.rm e.symm)), hi := keep_row h.hi hg (ap_some h.ri), ho := keep_row h.ho hg (ap_some h.ro), hs := keep_row h.hs hg (ap_some h.rs), hf := keep_row h.hf hg (ap_some h.fr) }
theorem SA.setM (h : SA B w p m V) (d : Nat) (x : Int) : SA B (w.setCell ⟨V.gm, d, none⟩ (.int .u32 x)) p { m with mem := m.mem.set d x } V := by
  obtain ⟨T, hb⟩ := h.blk
  have hg := grown_set w V.gm d (.int .u32 x)
  exact { h with
    blk := ⟨T, (hg.block p (lt_of_heap hb) (by intro e; cases e; exact h.pm rfl)).trans hb⟩
    hm := by have := (h.hm.stored d (.int .u32 x)).1; rw [← map_set]; exact this
    hr := keep_row h.hr hg (ap_some (by simp [ob]; exact h.rm)), hi := keep_row h.hi hg (ap_some h.mi), ho := keep_row h.ho hg (ap_some h.mo), hs := keep_row h.hs hg (ap_some h.ms), hf := keep_row h.hf hg (ap_some h.fm) }
/-- A store into its own block. -/
theorem SA.setP (h : SA B w p m V) (j : Nat) (u : Value) {m' : M} (hc : (stCells m V).setIfInBounds j u = stCells m' V) (hR : m'.R = m.R) (hm : m'.mem = m.mem) (hi : m'.inp = m.inp) (ho : m'.out = m.out) (hs : m'.st = m.st) (hf : m'.fl = m.fl) : SA B (w.setCell ⟨p, j, none⟩ u) p m' V := by
  obtain ⟨T, hb⟩ := h.blk
  have hg := grown_set w p j u
  have h0 := heap_setCell_same w p j _ T u hb
  rw [hc] at h0
  exact { h with
    blk := ⟨T, h0⟩
    hr := by rw [hR]; exact keep_row h.hr hg (ap_some (by simp [ob]; exact h.pr))
    hm := by rw [hm]; exact keep_row h.hm hg (ap_some (by simp [ob]; exact h.pm))
    hi := by unfold Vs.i; rw [hi]; exact keep_row h.hi hg (ap_some h.pi)
    ho := by unfold Vs.o; rw [ho]; exact keep_row h.ho hg (ap_some h.po)
    hs := by unfold Vs.s; rw [hs]; exact keep_row h.hs hg (ap_some h.ps)
    hf := by unfold Vs.f; rw [hf]; exact keep_row h.hf hg (ap_some h.pf) }
theorem SA.setPC (h : SA B w p m V) (n : Nat) : SA B (w.setCell ⟨p, 5, none⟩ (.int .i64 n)) p { m with pc := n } V := h.setP 5 _ rfl rfl rfl rfl rfl rfl rfl
theorem SA.setTk (h : SA B w p m V) (n : Nat) : SA B (w.setCell ⟨p, 3, none⟩ (.int .i64 n)) p { m with tk := n } V := h.setP 3 _ rfl rfl rfl rfl rfl rfl rfl
theorem SA.setStop (h : SA B w p m V) (n : Int) : SA B (w.setCell ⟨p, 7, none⟩ (.int .i64 n)) p { m with stop := n } V := h.setP 7 _ rfl rfl rfl rfl rfl rfl rfl
theorem SA.setJp (h : SA B w p m V) (n : Nat) : SA B (w.setCell ⟨p, 9, none⟩ (.int .i64 n)) p { m with jp := n } V := h.setP 9 _ rfl rfl rfl rfl rfl rfl rfl
theorem SA.setDl (h : SA B w p m V) (n : Nat) : SA B (w.setCell ⟨p, 10, none⟩ (.int .i64 n)) p { m with dl := n } V := h.setP 10 _ rfl rfl rfl rfl rfl rfl rfl
/-- One more output. -/
theorem SA.app (h : SA B w p m V) {x : Int} {g c : Nat} (hg : w.grownBy w' (ob V.ao)) (hr : w'.ownsRow B 69 1 (.slice (some ⟨g, 0, none⟩) (m.out.length + 1) c) (m.out.length + 1) (m.out.map ui ++ [ui x])) (hat : ob V.ao = some g ∨ g = w.heap.size) :
    SA B (w'.setCell ⟨p, 4, none⟩ (.slice (some ⟨g, 0, none⟩) (m.out.length + 1) c)) p { m with out := m.out ++ [x] } { V with ao := some ⟨g, 0, none⟩, co := c } := by
  obtain ⟨T, hb⟩ := h.blk
  have hlt := lt_of_heap hb
  have hb' := (hg.block p hlt (fun e => h.po e.symm)).trans hb
  have hg2 := grown_set w' p 4 (.slice (some ⟨g, 0, none⟩) (m.out.length + 1) c)
  have h0 := heap_setCell_same w' p 4 _ T (.slice (some ⟨g, 0, none⟩) (m.out.length + 1) c) hb'
  have hl : (m.out ++ [x]).length = m.out.length + 1 := by simp
  have gp : g ≠ p := by
    rcases hat with e | e
    · intro e2; subst e2; exact h.po e
    · omega
  have gr : g ≠ V.gr := by
    rcases hat with e | e
    · intro e2; subst e2; exact h.ro e
    · have := h.gr_lt; omega
  have gm : g ≠ V.gm := by
    rcases hat with e | e
    · intro e2; subst e2; exact h.mo e
    · have := h.gm_lt; omega
  have gi : ob V.ai ≠ some g := by
    rcases hat with e | e
    · exact fun e2 => h.io g e2 e
    · intro e2; have := h.hi.lt g (by rw [own_ob]; exact e2); omega
  have gs : ob V.az ≠ some g := by
    rcases hat with e | e
    · exact fun e2 => h.os g e e2
    · intro e2; have := h.hs.lt g (by rw [own_ob]; exact e2); omega
  have aor : Ap (ob V.ao) (some V.gr) := fun k hk e => by cases e; exact h.ro hk
  have aom : Ap (ob V.ao) (some V.gm) := fun k hk e => by cases e; exact h.mo hk
  exact { blk := ⟨T, by rw [h0]; simp [stCells, Vs.o, hl]⟩
          hp := h.hp
          hr := keep_row (keep_row h.hr hg aor) hg2 (ap_some (by simp [ob]; exact h.pr))
          hm := keep_row (keep_row h.hm hg aom) hg2 (ap_some (by simp [ob]; exact h.pm))
          hi := keep_row (keep_row h.hi hg h.io.symm) hg2 (ap_some h.pi)
          ho := by
            have := keep_row hr hg2 (ap_some (by simp [ob]; exact gp))
            unfold Vs.o
            rw [hl, List.map_append]
            exact this
          hs := keep_row (keep_row h.hs hg h.os) hg2 (ap_some h.ps)
          hf := keep_row (keep_row h.hf hg h.fo) hg2 (ap_some h.pf)
          pf := h.pf
          pr := h.pr, pm := h.pm, pi := h.pi, po := by simp [ob]; exact gp, ps := h.ps, rm := h.rm, ri := h.ri, ro := by simp [ob]; exact gr, rs := h.rs, mi := h.mi, mo := by simp [ob]; exact gm, ms := h.ms
          io := fun k hk e => by simp [ob] at e; subst e; exact gi hk
          is := h.is
          os := fun k hk e => by simp [ob] at hk; subst hk; exact gs e }
/-- One more return. -/
theorem SA.push (h : SA B w p m V) {x : Nat} {g c : Nat} (hg : w.grownBy w' (ob V.az)) (hr : w'.ownsRow B 3 1 (.slice (some ⟨g, 0, none⟩) (m.st.length + 1) c) (m.st.length + 1) (m.st.map ni ++ [ni x])) (hat : ob V.az = some g ∨ g = w.heap.size) :
    SA B (w'.setCell ⟨p, 6, none⟩ (.slice (some ⟨g, 0, none⟩) (m.st.length + 1) c)) p { m with st := m.st ++ [x] } { V with az := some ⟨g, 0, none⟩, cs := c } := by
  obtain ⟨T, hb⟩ := h.blk
  have hlt := lt_of_heap hb
  have hb' := (hg.block p hlt (fun e => h.ps e.symm)).trans hb
  have hg2 := grown_set w' p 6 (.slice (some ⟨g, 0, none⟩) (m.st.length + 1) c)
  have h0 := heap_setCell_same w' p 6 _ T (.slice (some ⟨g, 0, none⟩) (m.st.length + 1) c) hb'
  have hl : (m.st ++ [x]).length = m.st.length + 1 := by simp
  have gp : g ≠ p := by
    rcases hat with e | e
    · intro e2; subst e2; exact h.ps e
    · omega
  have gr : g ≠ V.gr := by
    rcases hat with e | e
    · intro e2; subst e2; exact h.rs e
    · have := h.gr_lt; omega
  have gm : g ≠ V.gm := by
    rcases hat with e | e
    · intro e2; subst e2; exact h.ms e
    · have := h.gm_lt; omega
  have gi : ob V.ai ≠ some g := by
    rcases hat with e | e
    · exact fun e2 => h.is g e2 e
    · intro e2; have := h.hi.lt g (by rw [own_ob]; exact e2); omega
  have go : ob V.ao ≠ some g := by
    rcases hat with e | e
    · exact fun e2 => h.os g e2 e
    · intro e2; have := h.ho.lt g (by rw [own_ob]; exact e2); omega
  have aor : Ap (ob V.az) (some V.gr) := fun k hk e => by cases e; exact h.rs hk
  have aom : Ap (ob V.az) (some V.gm) := fun k hk e => by cases e; exact h.ms hk
  exact { blk := ⟨T, by rw [h0]; simp [stCells, Vs.s, hl]⟩
          hp := h.hp
          hr := keep_row (keep_row h.hr hg aor) hg2 (ap_some (by simp [ob]; exact h.pr))
          hm := keep_row (keep_row h.hm hg aom) hg2 (ap_some (by simp [ob]; exact h.pm))
          hi := keep_row (keep_row h.hi hg h.is.symm) hg2 (ap_some h.pi)
          ho := keep_row (keep_row h.ho hg h.os.symm) hg2 (ap_some h.po)
          hf := keep_row (keep_row h.hf hg h.fs) hg2 (ap_some h.pf)
          pf := h.pf
          hs := by
            have := keep_row hr hg2 (ap_some (by simp [ob]; exact gp))
            unfold Vs.s
            rw [hl, List.map_append]
            exact this
          pr := h.pr, pm := h.pm, pi := h.pi, po := h.po, ps := by simp [ob]; exact gp, rm := h.rm, ri := h.ri, ro := h.ro, rs := by simp [ob]; exact gr, mi := h.mi, mo := h.mo, ms := by simp [ob]; exact gm
          io := h.io
          is := fun k hk e => by simp [ob] at e; subst e; exact gi hk
          os := fun k hk e => by simp [ob] at e; subst e; exact go hk }
/-- Another row of what flies. -/
theorem SA.setF (h : SA B w p m V) {l : List Fl} {A : Option Addr} {c : Nat} (hg : w.grownBy w' (ob V.af)) (hr : w'.ownsRow B 71 3 (.slice A l.length c) l.length (flat3 l)) (hat : ob A = ob V.af ∨ ∀ g, ob A = some g → w.heap.size ≤ g) :
    SA B (w'.setCell ⟨p, 8, none⟩ (.slice A l.length c)) p { m with fl := l } { V with af := A, cf := c } := by
  obtain ⟨T, hb⟩ := h.blk
  have hlt := lt_of_heap hb
  have hb' := (hg.block p hlt (fun e => h.pf e.symm)).trans hb
  have hg2 := grown_set w' p 8 (.slice A l.length c)
  have h0 := heap_setCell_same w' p 8 _ T (.slice A l.length c) hb'
  have gp : ob A ≠ some p := by
    rcases hat with e | e
    · rw [e]; exact h.pf
    · intro e2; have := e p e2; omega
  have afr : Ap (ob V.af) (some V.gr) := fun k hk e => by cases e; exact h.fr hk
  have afm : Ap (ob V.af) (some V.gm) := fun k hk e => by cases e; exact h.fm hk
  exact { h with
    blk := ⟨T, by rw [h0]; simp [stCells]⟩
    hr := keep_row (keep_row h.hr hg afr) hg2 (ap_some (by simp [ob]; exact h.pr))
    hm := keep_row (keep_row h.hm hg afm) hg2 (ap_some (by simp [ob]; exact h.pm))
    hi := keep_row (keep_row h.hi hg h.fi.symm) hg2 (ap_some h.pi)
    ho := keep_row (keep_row h.ho hg h.fo.symm) hg2 (ap_some h.po)
    hs := keep_row (keep_row h.hs hg h.fs.symm) hg2 (ap_some h.ps)
    hf := keep_row hr hg2 (ap_some gp)
    pf := gp }
theorem own_take {w : World} {base e g n cap : Nat} {xs : List Value} (h : w.ownsRow base e 1 (.slice (some ⟨g, 0, none⟩) n cap) n xs) {m : Nat} (hm : m ≤ n) :
    w.ownsRow base e 1 (.slice (some ⟨g, 0, none⟩) m cap) m (xs.take m) := by
  obtain ⟨hl, h2⟩ := h
  refine ⟨by simp at hl ⊢; omega, ?_⟩
  rcases h2 with ⟨h', _⟩ | ⟨g', cap', cur, h', hb, hg, hn, hc, hs, ht⟩
  · simp at h'
  · simp only [Value.slice.injEq, Option.some.injEq, Addr.mk.injEq, and_true, true_and] at h'
    obtain ⟨rfl, rfl⟩ := h'
    refine .inr ⟨g, cap, cur, rfl, hb, hg, by omega, hc, hs, ?_⟩
    rw [← ht, List.take_take, Nat.mul_one, Nat.mul_one, Nat.min_eq_left hm]
/-- One return less. -/
theorem SA.pop (h : SA B w p m V) {g k : Nat} (ha : V.az = some ⟨g, 0, none⟩) (hk : m.st.length = k + 1) :
    SA B (w.setCell ⟨p, 6, none⟩ (.slice (some ⟨g, 0, none⟩) k V.cs)) p { m with st := m.st.take k } V := by
  obtain ⟨T, hb⟩ := h.blk
  have hg2 := grown_set w p 6 (.slice (some ⟨g, 0, none⟩) k V.cs)
  have h0 := heap_setCell_same w p 6 _ T (.slice (some ⟨g, 0, none⟩) k V.cs) hb
  have hl : (m.st.take k).length = k := by rw [List.length_take]; omega
  have hs := h.hs
  unfold Vs.s at hs
  rw [ha] at hs
  have hs2 := keep_row (own_take hs (show k ≤ m.st.length by omega)) hg2 (ap_some (by have := h.ps; rw [ha] at this; exact this))
  exact { h with
    blk := ⟨T, by rw [h0]; simp [stCells, Vs.s, hl, ha]⟩
    hr := keep_row h.hr hg2 (ap_some (by simp [ob]; exact h.pr)), hm := keep_row h.hm hg2 (ap_some (by simp [ob]; exact h.pm)), hi := keep_row h.hi hg2 (ap_some h.pi), ho := keep_row h.ho hg2 (ap_some h.po), hf := keep_row h.hf hg2 (ap_some h.pf)
    hs := by
      unfold Vs.s
      rw [hl, ha, List.map_take]
      exact hs2 }
end

/-- Behind a part of a step: the state m' lies there, nothing below B has changed. -/
def Goes (B : Nat) (w : World) (p : Nat) (m' : M) (w' : World) : Prop := (∃ V, SA B w' p m' V) ∧ Below B w w'
/-- A state that may be. -/
structure Ok (m : M) : Prop where
  R : m.R.length = 16
  mem : m.mem.length = 256
  inp : m.inp.length ≤ 100
  tk : m.tk ≤ m.inp.length
  pc : m.pc ≤ 1024
  st : m.st.length ≤ 16
  out : m.out.length ≤ 1000000
  wR : ∀ x ∈ m.R, 0 ≤ x ∧ x ≤ 4294967295
  wM : ∀ x ∈ m.mem, 0 ≤ x ∧ x ≤ 4294967295
  wI : ∀ x ∈ m.inp, 0 ≤ x ∧ x ≤ 4294967295
  wS : ∀ x ∈ m.st, x ≤ 1024
  fl : m.fl.length ≤ 1000
  wF : ∀ f ∈ m.fl, f.r < 16 ∧ 0 ≤ f.v ∧ f.v ≤ 4294967295 ∧ f.k ≤ 1000
  jp : m.jp ≤ 1024
  dl : m.dl ≤ 2
def M.reg (m : M) (i : Nat) : Int := m.R.getD i 0
def M.word (m : M) (i : Nat) : Int := m.mem.getD i 0
def M.input (m : M) (i : Nat) : Int := m.inp.getD i 0
theorem getD_mem {P : Int → Prop} {l : List Int} {i : Nat} (hi : i < l.length) (h : ∀ x ∈ l, P x) : P (l.getD i 0) := by
  rw [List.getD_eq_getElem?_getD, List.getElem?_eq_getElem hi]; exact h _ (List.getElem_mem hi)
theorem map_at {l : List Int} {i : Nat} (hi : i < l.length) : (l.map ui)[i]? = some (.int .u32 (l.getD i 0)) := by
  rw [List.getElem?_map, List.getElem?_eq_getElem hi, List.getD_eq_getElem?_getD, List.getElem?_eq_getElem hi]; rfl
section
variable {B p : Nat} {w w' : World} {m : M} {V : Vs}
theorem Ok.reg (k : Ok m) {i : Nat} (hi : i < 16) : 0 ≤ m.reg i ∧ m.reg i ≤ 4294967295 := getD_mem (by rw [k.R]; exact hi) k.wR
theorem Ok.word (k : Ok m) {i : Nat} (hi : i < 256) : 0 ≤ m.word i ∧ m.word i ≤ 4294967295 := getD_mem (by rw [k.mem]; exact hi) k.wM
theorem SA.reg (h : SA B w p m V) (k : Ok m) {i : Nat} (hi : i < 16) : w.cell? ⟨V.gr, i, none⟩ = some (.int .u32 (m.reg i)) := (h.hr.cellAt i (by omega)).trans (map_at (by rw [k.R]; exact hi))
theorem SA.regF (h : SA B w p m V) (i : Nat) : w.frozen? ⟨V.gr, i, none⟩ = false := h.hr.frozenAt i
theorem SA.word (h : SA B w p m V) (k : Ok m) {i : Nat} (hi : i < 256) : w.cell? ⟨V.gm, i, none⟩ = some (.int .u32 (m.word i)) := (h.hm.cellAt i (by omega)).trans (map_at (by rw [k.mem]; exact hi))
theorem SA.wordF (h : SA B w p m V) (i : Nat) : w.frozen? ⟨V.gm, i, none⟩ = false := h.hm.frozenAt i
theorem SA.input (h : SA B w p m V) {i : Nat} (hi : i < m.inp.length) : ∃ g, V.ai = some ⟨g, 0, none⟩ ∧ g < w.heap.size ∧ w.cell? ⟨g, i, none⟩ = some (.int .u32 (m.input i)) := by
  obtain ⟨g, c, hv, hb, hl⟩ := h.hi.form (by omega)
  simp only [Vs.i, Value.slice.injEq, true_and] at hv
  refine ⟨g, hv.1, hl, ?_⟩
  have := h.hi
  unfold Vs.i at this
  rw [hv.1] at this
  exact (this.cellAt i (by omega)).trans (map_at hi)
theorem SA.ret (h : SA B w p m V) {i : Nat} (hi : i < m.st.length) : ∃ g, V.az = some ⟨g, 0, none⟩ ∧ g < w.heap.size ∧ w.cell? ⟨g, i, none⟩ = some (.int .i64 (m.st.getD i 0 : Nat)) := by
  obtain ⟨g, c, hv, hb, hl⟩ := h.hs.form (by omega)
  simp only [Vs.s, Value.slice.injEq, true_and] at hv
  refine ⟨g, hv.1, hl, ?_⟩
  have := h.hs
  unfold Vs.s at this
  rw [hv.1] at this
  refine (this.cellAt i (by omega)).trans ?_
  rw [List.getElem?_map, List.getElem?_eq_getElem hi, List.getD_eq_getElem?_getD, List.getElem?_eq_getElem hi]
  rfl
theorem SA.caps (h : SA B w p m V) : m.st.length ≤ V.cs ∧ V.cs ≤ maxLen := by
  rcases h.hs.2 with ⟨h', h0⟩ | ⟨g', cap', cur, h', hb, hg, hn, hc, hs, ht⟩
  · simp only [Vs.s, Value.slice.injEq] at h'; omega
  · simp only [Vs.s, Value.slice.injEq, true_and] at h'; omega
end
end Go.Proofs.YtbgmdikcbglpiaaGreatDoor
