/-
  The law MachineGrows (layer 4): what more input at the end does to a step.
-/
import Derived.Test.YthokpdalojfmiaaStep
import Derived.ChangeKeysEq
namespace Go.Proofs.Ythokpdalojfmiaa
open Go.ChangeShapes Go.WideShapes Go.ChangeAt Go.RowKit

/-- More input at the end. -/
def ext (s : MS) (more : List Int) : MS := { s with inp := s.inp ++ more }
def ext3 (r : MS × Int × Int) (more : List Int) : MS × Int × Int := (ext r.1 more, r.2)
theorem put_ext (s : MS) (k : Nat) (v : Int) (more : List Int) : (ext s more).put k v = ext3 (s.put k v) more := by
  by_cases h : k = 14
  · subst h
    cases hb : s.mem.floorBad v
    · have h1 : s.put 14 v = ({ s with mem := s.mem.setFloor v, regs := s.regs.set 14 v }, s.place + 1, 0) := by simp [MS.put, hb]
      have h2 : (ext s more).put 14 v = ({ (ext s more) with mem := s.mem.setFloor v, regs := s.regs.set 14 v }, s.place + 1, 0) := by
        have : (ext s more).mem.floorBad v = false := hb
        simp only [MS.put, this]; rfl
      rw [h1, h2]; rfl
    · have h1 : s.put 14 v = (s, 0, 8) := by simp [MS.put, hb]
      have h2 : (ext s more).put 14 v = (ext s more, 0, 8) := by
        have : (ext s more).mem.floorBad v = true := hb
        simp only [MS.put, this]; rfl
      rw [h1, h2]; rfl
  · have h1 : s.put k v = ({ s with regs := s.regs.set k v }, s.place + 1, 0) := by simp [MS.put, h]
    have h2 : (ext s more).put k v = ({ (ext s more) with regs := s.regs.set k v }, s.place + 1, 0) := by simp only [MS.put, h]; rfl
    rw [h1, h2]; rfl
theorem act_ext (o a b c : Nat) (i : Int) (s : MS) (more : List Int) (h : o = 11 → s.inp ≠ []) : act o a b c i (ext s more) = ext3 (act o a b c i s) more := by
  match o, h with
  | 0, _ => rfl
  | 1, _ => exact put_ext s a i more
  | 2, _ => exact put_ext s a _ more
  | 3, _ => exact put_ext s a _ more
  | 4, _ =>
    show (ext s more).bin a (doV i (s.r b) (s.r c)) (doE i (s.r c)) = ext3 (s.bin a (doV i (s.r b) (s.r c)) (doE i (s.r c))) more
    unfold MS.bin
    by_cases hh : doE i (s.r c) = 0
    · rw [if_pos hh, if_pos hh]; exact put_ext s a _ more
    · rw [if_neg hh, if_neg hh]; rfl
  | 5, _ =>
    show (ext s more).ld a (s.sum b i) = ext3 (s.ld a (s.sum b i)) more
    unfold MS.ld
    by_cases hh : s.mem.err (s.sum b i) = 0
    · rw [if_pos (show (ext s more).mem.err (s.sum b i) = 0 from hh), if_pos hh]; exact put_ext s a _ more
    · rw [if_neg (show ¬ (ext s more).mem.err (s.sum b i) = 0 from hh), if_neg hh]; rfl
  | 6, _ =>
    show (ext s more).st (s.sum b i) (s.r a) = ext3 (s.st (s.sum b i) (s.r a)) more
    unfold MS.st
    by_cases hh : s.mem.err (s.sum b i) = 0
    · rw [if_pos (show (ext s more).mem.err (s.sum b i) = 0 from hh), if_pos hh]; rfl
    · rw [if_neg (show ¬ (ext s more).mem.err (s.sum b i) = 0 from hh), if_neg hh]; rfl
  | 7, _ => rfl
  | 8, _ => rfl
  | 9, _ => rfl
  | 10, _ => rfl
  | 11, h =>
    show (ext s more).take a = ext3 (s.take a) more
    cases hi : s.inp with
    | nil => exact absurd hi (h rfl)
    | cons x r =>
      have e1 : s.take a = if (s.put a x).2.2 = 0 then ({ (s.put a x).1 with inp := r }, (s.put a x).2.1, 0) else s.put a x := by unfold MS.take; rw [hi]
      have e2 : (ext s more).take a = if ((ext s more).put a x).2.2 = 0 then ({ ((ext s more).put a x).1 with inp := r ++ more }, ((ext s more).put a x).2.1, 0) else (ext s more).put a x := by
        unfold MS.take
        rw [show (ext s more).inp = x :: (r ++ more) by simp [ext, hi]]
      rw [e1, e2, put_ext]
      by_cases hh : (s.put a x).2.2 = 0
      · rw [if_pos (show (ext3 (s.put a x) more).2.2 = 0 from hh), if_pos hh]; rfl
      · rw [if_neg (show ¬ (ext3 (s.put a x) more).2.2 = 0 from hh), if_neg hh]
  | 12, _ => rfl
  | 13, _ =>
    show (ext s more).grow a (s.r b) = ext3 (s.grow a (s.r b)) more
    unfold MS.grow
    by_cases hh : s.mem.allocErr (s.r b) = 0
    · rw [if_pos (show (ext s more).mem.allocErr (s.r b) = 0 from hh), if_pos hh]
      exact put_ext { s with mem := s.mem.alloc (s.r b) } a _ more
    · rw [if_neg (show ¬ (ext s more).mem.allocErr (s.r b) = 0 from hh), if_neg hh]; rfl
  | n + 14, _ => exact put_ext s a _ more

theorem step_ext (l : List Ins) (s : MS) (more : List Int) (h : ¬ ((stepM l s).over = true ∧ (stepM l s).err = 10)) : stepM l (ext s more) = ext (stepM l s) more := by
  by_cases ho : s.over = true
  · have e1 : stepM l s = s := if_pos ho
    have e2 : stepM l (ext s more) = ext s more := if_pos ho
    rw [e1, e2]
  · have e1 : stepM l s = if (doR l s).2.2 = 0 then { (doR l s).1 with place := (doR l s).2.1 } else (doR l s).1.fin (doR l s).2.2 0 := if_neg ho
    have e2 : stepM l (ext s more) = if (doR l (ext s more)).2.2 = 0 then { (doR l (ext s more)).1 with place := (doR l (ext s more)).2.1 } else (doR l (ext s more)).1.fin (doR l (ext s more)).2.2 0 := if_neg ho
    have hd : doR l (ext s more) = ext3 (doR l s) more := by
      have ep : insAt l (ext s more).place = insAt l s.place := rfl
      unfold doR
      rw [ep]
      cases hx : insAt l s.place with
      | none => rfl
      | some x =>
        refine act_ext _ _ _ _ _ s more (fun h11 hnil => h ?_)
        have hr : doR l s = (s, 0, 10) := by
          unfold doR
          rw [hx]
          simp only [h11]
          show s.take _ = _
          unfold MS.take
          rw [hnil]
        rw [e1, hr]
        exact ⟨rfl, rfl⟩
    rw [e1, e2, hd]
    by_cases hh : (doR l s).2.2 = 0
    · rw [if_pos (show (ext3 (doR l s) more).2.2 = 0 from hh), if_pos hh]; rfl
    · rw [if_neg (show ¬ (ext3 (doR l s) more).2.2 = 0 from hh), if_neg hh]; rfl

theorem put_inp (s : MS) (k : Nat) (v : Int) : (s.put k v).1.inp = s.inp := (put_kept s k v).1
theorem act_inp (o a b c : Nat) (i : Int) (s : MS) : (act o a b c i s).1.inp.length ≤ s.inp.length := by
  unfold act
  split <;> first
    | exact Nat.le_refl _
    | exact Nat.le_of_eq (by rw [put_inp])
    | (unfold MS.bin; split <;> first | exact Nat.le_of_eq (by rw [put_inp]) | exact Nat.le_refl _)
    | (unfold MS.ld; split <;> first | exact Nat.le_of_eq (by rw [put_inp]) | exact Nat.le_refl _)
    | (unfold MS.st; split <;> exact Nat.le_refl _)
    | (unfold MS.grow; split <;> first | exact Nat.le_of_eq (by rw [put_inp]) | exact Nat.le_refl _)
    | (unfold MS.take; split <;> first | exact Nat.le_refl _ | (rename_i x r hi; split <;> first | exact Nat.le_of_eq (by rw [put_inp]) | (rw [hi]; simp)))
theorem step_inp (l : List Ins) (s : MS) : (stepM l s).inp.length ≤ s.inp.length := by
  unfold stepM
  split
  · exact Nat.le_refl _
  · have : (doR l s).1.inp.length ≤ s.inp.length := by
      unfold doR
      split
      · exact Nat.le_refl _
      · exact act_inp _ _ _ _ _ s
    split <;> exact this

theorem cellsOf3 : Try.prog.cellsOf 3 = 1 := by kernel_rfl
theorem under39 : Try.prog.underlying 39 = some (.array 16 3) := by kernel_rfl
theorem some3 : ∃ i, Try.prog.info? 3 = some i := ⟨_, rfl⟩
theorem part3 (xs : Array Value) (k : Nat) (x : Int) (h : xs[k]? = some (iv x)) (w : World) : (part 3 xs k).run Try.prog w = .ok (iv x) w := by
  obtain ⟨hk, hx⟩ := Array.getElem?_eq_some_iff.1 h
  go_simp
theorem eq3 (d : Nat) (x : Int) (w : World) : (Op.equalIn (d + 1) 3 (iv x) (iv x)).run Try.prog w = .ok true w := by
  simp [Op.equalIn, run_underlying Try.underlying3]
theorem items_same (d : Nat) (r : List Int) (w : World) : ∀ is : List Nat, (∀ i ∈ is, i < r.length) → (Op.eqItems (d + 1) 3 1 (vals r).toArray (vals r).toArray is).run Try.prog w = .ok true w
  | [], _ => by simp [Op.eqItems]
  | i :: is, h => by
    have hi : i < r.length := h i (by simp)
    have hp := part3 (vals r).toArray i r[i] (by simp [vals, hi]) w
    have ih := items_same d r w is (fun j hj => h j (by simp [hj]))
    have he := eq3 d r[i] w
    simp [Op.eqItems, hp, he, ih]
theorem neq_regs (r : List Int) (h : r.length = 16) (w : World) : (binOp .neq 39 (.agg (vals r).toArray) (.agg (vals r).toArray)).run Try.prog w = .ok (.bool false) w := by
  obtain ⟨i, hi⟩ := some3
  rw [run_neq_struct, show (10000 : Nat) = 9999 + 1 from rfl, run_equalIn_array w 9999 _ _ under39 hi, cellsOf3, show Op.eqItems 9999 3 1 (vals r).toArray (vals r).toArray (List.range 16) = Op.eqItems (9998 + 1) 3 1 (vals r).toArray (vals r).toArray (List.range 16) from rfl, items_same 9998 r w (List.range 16) (fun i hi => by rw [h]; simpa using hi)]
  rfl

end Go.Proofs.Ythokpdalojfmiaa
