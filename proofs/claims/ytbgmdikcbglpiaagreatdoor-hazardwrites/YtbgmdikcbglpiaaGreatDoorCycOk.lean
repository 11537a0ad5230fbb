/-
  What a cycle of the pipe keeps: a state that may be leads to one that may be. No program is named here, no condition.
-/
import Derived.Test.YtbgmdikcbglpiaaGreatDoorCyc
namespace Go.Proofs.YtbgmdikcbglpiaaGreatDoor
open Go.RowKit

section
variable {x : In5} {m : M} {n : Nat} {l : List In5} {j : Bool}
theorem tak_fl0 (m : M) : (tak m).2.fl = m.fl := by unfold tak; split <;> rfl
/-- The ways of a slot. -/
theorem slot_elim {C : M × Bool × Int → Prop} (v : Vi x) (k : Ok m)
    (h0 : C (m, false, 0))
    (hf : ∀ m2 vv, m2 = m ∨ m2 = (tak m).2 → 0 ≤ vv → vv ≤ 4294967295 → C (fly m2 x vv, false, 0))
    (hs : ∀ kk : Int, 1 ≤ kk → kk ≤ 4 → C (m, false, kk))
    (hm : ∀ a (vv : Int), 0 ≤ vv ∧ vv ≤ 4294967295 → C ({ m with mem := m.mem.set a vv }, false, 0))
    (ho : ∀ vv, C ({ m with out := m.out ++ [vv] }, false, 0))
    (hj : ∀ m2 t, m2 = m ∨ (m.st.length < 16 ∧ m2 = { m with st := m.st ++ [min (m.pc + 3) 1024] }) ∨ (∃ q, m2 = { m with st := m.st.take q }) → t ≤ 1024 → C (jmp m2 t, true, 0)) : C (slot x m) := by
  unfold slot
  rcases op_ways v.o with h | ⟨h1, h2⟩ | h | h | h | h | h | h | h | h | h | h | h
  · rw [if_pos h]; exact h0
  · rw [if_neg (by omega), if_pos h2]
    split
    · exact hs _ (by decide) (by decide)
    · have := res_in k v.a; exact hf _ _ (.inl rfl) this.1 this.2
  · rw [if_neg (by omega), if_neg (by omega), if_pos h]; exact hf _ _ (.inl rfl) (by omega) (by omega)
  · rw [if_neg (by omega), if_neg (by omega), if_neg (by omega), if_pos h]
    split
    · have := k.word (by assumption); exact hf _ _ (.inl rfl) this.1 this.2
    · exact hs _ (by decide) (by decide)
  · rw [if_neg (by omega), if_neg (by omega), if_neg (by omega), if_neg (by omega), if_pos h]
    split
    · exact hm _ _ (k.reg v.b)
    · exact hs _ (by decide) (by decide)
  · rw [if_neg (by omega), if_neg (by omega), if_neg (by omega), if_neg (by omega), if_neg (by omega), if_pos h]
    obtain ⟨k1, h1, h2, h3⟩ := k.tak
    exact hf _ _ (.inr rfl) h1 h2
  · rw [if_neg (by omega), if_neg (by omega), if_neg (by omega), if_neg (by omega), if_neg (by omega), if_neg (by omega), if_pos h]; exact ho _
  · have ht := v.tg (by omega) (by omega)
    rw [if_neg (by omega), if_neg (by omega), if_neg (by omega), if_neg (by omega), if_neg (by omega), if_neg (by omega), if_neg (by omega), if_pos h]; exact hj _ _ (.inl rfl) (by omega)
  · have ht := v.tg (by omega) (by omega)
    rw [if_neg (by omega), if_neg (by omega), if_neg (by omega), if_neg (by omega), if_neg (by omega), if_neg (by omega), if_neg (by omega), if_neg (by omega), if_pos h]
    split
    · exact hj _ _ (.inl rfl) (by omega)
    · exact h0
  · have ht := v.tg (by omega) (by omega)
    rw [if_neg (by omega), if_neg (by omega), if_neg (by omega), if_neg (by omega), if_neg (by omega), if_neg (by omega), if_neg (by omega), if_neg (by omega), if_neg (by omega), if_pos h]
    split
    · exact h0
    · exact hj _ _ (.inl rfl) (by omega)
  · have ht := v.tg (by omega) (by omega)
    rw [if_neg (by omega), if_neg (by omega), if_neg (by omega), if_neg (by omega), if_neg (by omega), if_neg (by omega), if_neg (by omega), if_neg (by omega), if_neg (by omega), if_neg (by omega), if_pos h]
    split
    · exact hs _ (by decide) (by decide)
    · have := k.st; exact hj _ _ (.inr (.inl ⟨by omega, rfl⟩)) (by omega)
  · rw [if_neg (by omega), if_neg (by omega), if_neg (by omega), if_neg (by omega), if_neg (by omega), if_neg (by omega), if_neg (by omega), if_neg (by omega), if_neg (by omega), if_neg (by omega), if_neg (by omega), if_pos h]
    split
    · exact hs _ (by decide) (by decide)
    · exact hj _ _ (.inr (.inr ⟨_, rfl⟩)) (getD_memN (by have := k.st; omega) k.wS)
  · rw [if_neg (by omega), if_neg (by omega), if_neg (by omega), if_neg (by omega), if_neg (by omega), if_neg (by omega), if_neg (by omega), if_neg (by omega), if_neg (by omega), if_neg (by omega), if_neg (by omega), if_neg (by omega)]
    exact hs _ (by decide) (by decide)
theorem Ok.push3 {m : M} (k : Ok m) (h : m.st.length < 16) : Ok { m with st := m.st ++ [min (m.pc + 3) 1024] } :=
  { k with st := by show (m.st ++ [min (m.pc + 3) 1024]).length ≤ 16; simp; omega, wS := mem_pushN k.wS (by omega) }
theorem Ok.jmp {m : M} (k : Ok m) {t : Nat} (h : t ≤ 1024) : Ok (jmp m t) := { k with jp := h, dl := Nat.le_refl 2 }
theorem lat_fl (v : Vi x) : (lt x.o - 1).toNat ≤ 3 := by have := lt_le ⟨x.o, v.o⟩; simp only at this; omega
theorem Ok.fly {m : M} (k : Ok m) (v : Vi x) (hl : m.fl.length < 1000) {vv : Int} (h1 : 0 ≤ vv) (h2 : vv ≤ 4294967295) : Ok (fly m x vv) :=
  { k with
    fl := by show (m.fl ++ [_]).length ≤ 1000; simp; omega
    wF := fun f hf => by
      rcases List.mem_append.1 (show f ∈ m.fl ++ [⟨x.d, vv, (lt x.o - 1).toNat⟩] from hf) with h | h
      · exact k.wF f h
      · simp only [List.mem_singleton] at h
        subst h
        exact ⟨v.d, h1, h2, by have := lat_fl v; simp only; omega⟩ }
theorem slot_ok (v : Vi x) (k : Ok m) (hl : m.fl.length < 1000) (ho : m.out.length < 1000000) : Ok (slot x m).1 := by
  refine slot_elim (C := fun r => Ok r.1) v k k (fun m2 vv h h1 h2 => ?_) (fun _ _ _ => k) (fun a vv h => k.setMem a h) (fun vv => k.setOut vv ho) (fun m2 t h ht => ?_)
  · rcases h with rfl | rfl
    · exact k.fly v hl h1 h2
    · exact k.tak.1.fly v (by rw [tak_fl0]; exact hl) h1 h2
  · rcases h with rfl | ⟨h16, rfl⟩ | ⟨q, rfl⟩
    · exact k.jmp ht
    · exact (k.push3 h16).jmp ht
    · exact (k.pop q).jmp ht
theorem slot_fb (v : Vi x) (k : Ok m) (f : Fb n m.fl) : Fb (n + 1) (slot x m).1.fl := by
  refine slot_elim (C := fun r => Fb (n + 1) r.1.fl) v k (f.mono (by omega)) (fun m2 vv h h1 h2 => ?_) (fun _ _ _ => f.mono (by omega)) (fun _ _ _ => f.mono (by omega)) (fun _ => f.mono (by omega)) (fun m2 t h ht => ?_)
  · have h3 : m2.fl = m.fl := by rcases h with rfl | rfl; rfl; exact tak_fl0 m
    show Fb (n + 1) (m2.fl ++ [_])
    rw [h3]
    exact f.app v.d ⟨h1, h2⟩ (lat_fl v)
  · rcases h with rfl | ⟨h16, rfl⟩ | ⟨q, rfl⟩ <;> exact f.mono (by omega)
theorem slot_out (v : Vi x) (k : Ok m) : (slot x m).1.out.length ≤ m.out.length + 1 := by
  refine slot_elim (C := fun r => r.1.out.length ≤ m.out.length + 1) v k (by simp) (fun m2 vv h h1 h2 => ?_) (fun _ _ _ => by simp) (fun _ _ _ => by simp) (fun _ => by simp) (fun m2 t h ht => ?_)
  · rcases h with rfl | rfl
    · simp [fly]
    · simp only [fly, tak]; split <;> simp
  · rcases h with rfl | ⟨h16, rfl⟩ | ⟨q, rfl⟩ <;> simp [jmp]
/-- Registers, PC and Stop are as they were. -/
theorem slot_same (v : Vi x) (k : Ok m) : (slot x m).1.R = m.R ∧ (slot x m).1.pc = m.pc ∧ (slot x m).1.stop = m.stop ∧ (slot x m).1.inp = m.inp ∧ m.tk ≤ (slot x m).1.tk := by
  refine slot_elim (C := fun r => r.1.R = m.R ∧ r.1.pc = m.pc ∧ r.1.stop = m.stop ∧ r.1.inp = m.inp ∧ m.tk ≤ r.1.tk) v k (by simp) (fun m2 vv h h1 h2 => ?_) (fun _ _ _ => by simp) (fun _ _ _ => by simp) (fun _ => by simp) (fun m2 t h ht => ?_)
  · rcases h with rfl | rfl
    · simp [fly]
    · simp only [fly, tak]; split <;> simp
  · rcases h with rfl | ⟨h16, rfl⟩ | ⟨q, rfl⟩ <;> simp [jmp]
theorem slot_stop (v : Vi x) (k : Ok m) : 0 ≤ (slot x m).2.2 ∧ (slot x m).2.2 ≤ 4 := by
  refine slot_elim (C := fun r => 0 ≤ r.2.2 ∧ r.2.2 ≤ 4) v k (by simp) (fun _ _ _ _ _ => by simp) (fun kk h1 h2 => by simp only; omega) (fun _ _ _ => by simp) (fun _ => by simp) (fun _ _ _ _ => by simp)
/-- What all slots keep. -/
theorem slots_ok (l : List In5) (m : M) (j : Bool) (n : Nat) (hv : ∀ x ∈ l, Vi x) (k : Ok m) (f : Fb n m.fl) (hn : n + l.length ≤ 4) (ho : m.out.length + l.length ≤ 1000000) (hs : m.stop = 0) :
    Ok (slots l m j).1 ∧ Fb 4 (slots l m j).1.fl ∧ (slots l m j).1.out.length ≤ m.out.length + l.length ∧ (slots l m j).1.pc = m.pc ∧ 0 ≤ (slots l m j).1.stop ∧ (slots l m j).1.stop ≤ 4 := by
  induction l generalizing m j n with
  | nil => exact ⟨k, f.mono (by simpa using hn), Nat.le_refl _, rfl, by simp only [slots]; omega, by simp only [slots]; omega⟩
  | cons x l ih =>
    simp only [List.length_cons] at hn ho
    have v := hv x (List.mem_cons_self ..)
    have h1 := slot_ok v k (by have := f.len; omega) (by omega)
    have h2 := slot_fb v k f
    have h3 := slot_out v k
    have h4 := slot_same v k
    have h5 := slot_stop v k
    unfold slots
    split
    · obtain ⟨a, b, c, d, e, g⟩ := ih (slot x m).1 (j || (slot x m).2.1) (n + 1) (fun y hy => hv y (List.mem_cons_of_mem _ hy)) h1 h2 (by omega) (by omega) (by rw [h4.2.2.1]; exact hs)
      exact ⟨a, b, by simp only [List.length_cons]; omega, d.trans h4.2.1, e, g⟩
    · exact ⟨h1.stop _, h2.mono (by omega), by simp only [stop, List.length_cons]; omega, h4.2.1, by simp only [stop]; exact h5.1, by simp only [stop]; exact h5.2⟩
theorem Ok.land (k : Ok m) : Ok (land m) :=
  { k with
    R := by show (land1 m.R m.fl).length = 16; rw [land1_len]; exact k.R
    wR := land1_in m.fl m.R (fun f hf => ⟨(k.wF f hf).2.1, (k.wF f hf).2.2.1⟩) k.wR
    fl := Nat.le_trans (later_len m.fl) k.fl
    wF := fun f hf => by
      obtain ⟨g, hg, h0, rfl⟩ := later_mem hf
      have := k.wF g hg
      simp only
      omega }
theorem Ok.drain (k : Ok m) : Ok (drain m) := k.land.land.land.land.land
theorem Ok.adv (k : Ok m) (hp : m.pc < 1024) : Ok (adv j m) := by
  unfold Go.Proofs.YtbgmdikcbglpiaaGreatDoor.adv
  split
  · exact { k with pc := hp }
  · split
    · exact { k with pc := k.jp, dl := by simp, jp := by simp }
    · exact { k with pc := hp, dl := by have := k.dl; show m.dl - 1 ≤ 2; omega }
/-- Code that may be. -/
def Vc (C : List (List In5)) : Prop := C.length ≤ 1024 ∧ ∀ b ∈ C, b.length = 4 ∧ ∀ x ∈ b, Vi x
/-- A pipe's state that may be. -/
structure Okc (m : M) : Prop where
  ok : Ok m
  fb : Fb 4 m.fl
  s0 : 0 ≤ m.stop
  s6 : m.stop ≤ 6
theorem Vc.at_ {C : List (List In5)} (h : Vc C) {i : Nat} (hi : i < C.length) : (C.getD i []).length = 4 ∧ ∀ x ∈ C.getD i [], Vi x := by
  rw [List.getD_eq_getElem?_getD, List.getElem?_eq_getElem hi]; exact h.2 _ (List.getElem_mem hi)
theorem adv_fl (j : Bool) (m : M) : (adv j m).fl = m.fl ∧ (adv j m).out = m.out ∧ (adv j m).stop = m.stop := by
  unfold adv
  split
  · simp
  · split <;> simp
theorem land_out (m : M) : (land m).out = m.out ∧ (land m).stop = m.stop ∧ (land m).pc = m.pc := ⟨rfl, rfl, rfl⟩
theorem Okc.cyc (k : Okc m) {C : List (List In5)} (v : Vc C) (ho : m.out.length + 4 ≤ 1000000) (hs : m.stop = 0) : Okc (cyc C m) ∧ (cyc C m).out.length ≤ m.out.length + 4 := by
  unfold Go.Proofs.YtbgmdikcbglpiaaGreatDoor.cyc
  have kl := k.ok.land
  have fl := k.fb.later
  split
  · exact ⟨⟨kl.stop _, fl.mono (by omega), by simp [stop], by simp [stop]⟩, by simp [stop, land]⟩
  · next hp =>
    obtain ⟨hb4, hbv⟩ := v.at_ (by omega : m.pc < C.length)
    obtain ⟨a, b, c, d, e, g⟩ := slots_ok (C.getD m.pc []) (land m) false 0 hbv kl fl (by omega) (by rw [(land_out m).1]; omega) ((land_out m).2.1.trans hs)
    have hpc : (slots (C.getD m.pc []) (land m) false).1.pc < 1024 := by rw [d, (land_out m).2.2]; have := v.1; omega
    have hout : (slots (C.getD m.pc []) (land m) false).1.out.length ≤ m.out.length + 4 := by rw [(land_out m).1] at c; omega
    unfold issue
    split
    · next h0 =>
      have h1 := adv_fl (slots (C.getD m.pc []) (land m) false).2 (slots (C.getD m.pc []) (land m) false).1
      exact ⟨⟨a.adv hpc, by rw [h1.1]; exact b, by rw [h1.2.2]; omega, by rw [h1.2.2]; omega⟩, by rw [h1.2.1]; exact hout⟩
    · split
      · next h1 =>
        refine ⟨⟨a.drain, ?_, by show 0 ≤ (slots (C.getD m.pc []) (land m) false).1.stop; omega, by show (slots (C.getD m.pc []) (land m) false).1.stop ≤ 6; omega⟩, hout⟩
        rw [drain_nil b.lo]
        exact ⟨fun f hf => (by cases hf), fun k _ => (by simp)⟩
      · exact ⟨⟨a, b, e, by omega⟩, hout⟩
end
end Go.Proofs.YtbgmdikcbglpiaaGreatDoor
