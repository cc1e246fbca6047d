/-
  The document's own memory (layer 3) beside a memory's state: what it holds where cells are there.
-/
import Derived.Test.YtmpfcplkgkhboaaRefS
namespace Go.Proofs.Ytmpfcplkgkhboaa
open Go.ChangeShapes Go.WideShapes Go.ChangeAt Go.RowKit Go.Maps

abbrev RefT (w : World) (Q M n : Nat) (g : Int → Int) (s : St) : Prop := RefM w Q M n g s.c.length s.h s.f
/-- Where a cell is there the map holds what it holds. -/
def Agree (s : St) (g : Int → Int) : Prop := ∀ a : Int, s.is a = true → g a = s.c.getD a.toNat 0

theorem is_iff (s : St) (a : Int) : s.is a = true ↔ (1 ≤ a ∧ a < s.h ∨ (s.f : Int) ≤ a ∧ a < s.c.length) := by
  unfold St.is isCell; exact decide_eq_true_iff

theorem agree_fresh (n : Nat) : Agree (fresh n) (fun _ => 0) := fun a _ => by
  show 0 = (List.replicate n (0 : Int)).getD a.toNat 0
  rw [List.getD_eq_getElem?_getD, List.getElem?_replicate]; split <;> rfl

theorem agree_store {s : St} {g : Int → Int} {w : World} {B R : Nat} (m : MemS w B R s) (h : Agree s g) (a v : Int) (ha : s.is a = true) : Agree (s.store a v) (fun b => if b = a then v else g b) := by
  intro b hb
  rw [store_same] at hb
  have h2 := h b hb
  have i1 := (is_iff s a).1 ha
  have i2 := (is_iff s b).1 hb
  have := m.hf; have := m.fn
  show (if b = a then v else g b) = _
  simp only [St.store, ha, if_true]
  by_cases hba : b = a
  · subst hba
    rw [if_pos rfl]
    simp [show b.toNat < s.c.length by omega]
  · rw [if_neg hba, h2]
    simp [show a.toNat ≠ b.toNat by omega]

theorem agree_floor {s : St} {g : Int → Int} {w : World} {B R : Nat} (m : MemS w B R s) (h : Agree s g) (a : Nat) (h1 : s.h ≤ a) (h2 : a ≤ s.c.length) : Agree (s.setFloor a) (nought g a s.f) := by
  have hl := len_setFloor m a
  have q := m.hf; have q2 := m.fn
  have hb : s.floorBad a = false := by unfold St.floorBad; exact decide_eq_false (by omega)
  intro b hb2
  have i2 := (is_iff _ b).1 hb2
  rw [hl] at i2
  simp only [St.setFloor, hb, Int.toNat_natCast] at i2 ⊢
  rw [if_neg (by simp)] at i2 ⊢
  simp only at i2
  unfold nought
  by_cases hr : (a : Int) ≤ b ∧ b < (s.f : Int)
  · rw [if_pos hr]
    simp only [if_pos (show (a : Int) < s.f by omega)]
    rw [wipe_get _ _ _ (by omega), if_pos ⟨by omega, by omega⟩]
  · rw [if_neg hr, h b ((is_iff s b).2 (by omega))]
    by_cases hlt : (a : Int) < s.f
    · simp only [if_pos hlt]
      rw [wipe_get _ _ _ (by omega), if_neg (by omega)]
    · simp only [if_neg hlt]

theorem agree_alloc {s : St} {g : Int → Int} {w : World} {B R : Nat} (m : MemS w B R s) (h : Agree s g) (k : Nat) (h1 : s.h + k ≤ s.f) : Agree (s.alloc k) (nought g s.h (s.h + k)) := by
  have hl := len_alloc m k
  have q := m.one; have q2 := m.fn
  have hb : s.allocBad k = false := by unfold St.allocBad; exact decide_eq_false (by omega)
  intro b hb2
  have i2 := (is_iff _ b).1 hb2
  rw [hl] at i2
  simp only [St.alloc, hb, Int.toNat_natCast] at i2 ⊢
  rw [if_neg (by simp)] at i2 ⊢
  simp only at i2
  unfold nought
  rw [wipe_get _ _ _ (by omega)]
  by_cases hr : (s.h : Int) ≤ b ∧ b < ((s.h + k : Nat) : Int)
  · rw [if_pos hr, if_pos ⟨by omega, by omega⟩]
  · rw [if_neg hr, if_neg (by omega), h b ((is_iff s b).2 (by omega))]

theorem refLoad_any {w : World} {Q M n : Nat} {g : Int → Int} {s : St} (m : RefT w Q M n g s) (hA : Agree s g) (a : Int) :
    Calls Try.prog 22 #[ptr Q, iv a] w fun e w' => e = .returned (.tuple #[iv (s.load a), iv (s.err a)]) ∧ w' = w := by
  cases ha : s.is a with
  | false => simp only [St.load, St.err, ha]; exact refLoad_no m a ha
  | true =>
    simp only [St.load, St.err, ha]
    have := refLoad_is m a ha
    rw [hA a ha] at this
    exact this

theorem refStore_any {w : World} {Q M n B R : Nat} {g : Int → Int} {s : St} {w0 : World} (m : RefT w Q M n g s) (mm : MemS w0 B R s) (hA : Agree s g) (hn : n < 1000000000) (a v : Int) (hv : (Lit.int .i64 v).wf = true) :
    Calls Try.prog 21 #[ptr Q, iv a, iv v] w fun e w' => e = .returned (iv (s.err a)) ∧ Turn Q M w w' ∧ ∃ g', RefT w' Q M (n + (s.c.length + 1)) g' (s.store a v) ∧ Agree (s.store a v) g' := by
  have hl := len_store s a v
  cases ha : s.is a with
  | false =>
    simp only [St.err, ha]
    refine (refStore_no m a v ha).mono fun e w' ⟨he, hw⟩ => ?_
    subst hw
    have e2 : s.store a v = s := by simp [St.store, ha]
    rw [e2]
    exact ⟨he, Turn.refl _ _ _, g, m.mono (by omega), hA⟩
  | true =>
    simp only [St.err, ha]
    refine (refStore_is m a v hv hn ha).mono fun e w' ⟨he, ht, hm⟩ => ⟨he, ht, _, ?_, agree_store mm hA a v ha⟩
    show RefM w' Q M _ _ (s.store a v).c.length (s.store a v).h (s.store a v).f
    rw [hl]
    simp only [St.store, ha, if_true]
    exact hm.mono (by omega)

theorem refSetFloor_any {w : World} {Q M n B R : Nat} {g : Int → Int} {s : St} {w0 : World} (m : RefT w Q M n g s) (mm : MemS w0 B R s) (hA : Agree s g) (hn : n < 1000000000) (a : Int) :
    Calls Try.prog 19 #[ptr Q, iv a] w fun e w' => e = .returned (iv (s.floorErr a)) ∧ Turn Q M w w' ∧ ∃ g', RefT w' Q M (n + (s.c.length + 1)) g' (s.setFloor a) ∧ Agree (s.setFloor a) g' := by
  have hl := len_setFloor mm a
  cases ha : s.floorBad a with
  | true =>
    have hb := ha
    unfold St.floorBad at hb
    simp only [St.floorErr, ha]
    refine (refSetFloor_no m a (of_decide_eq_true hb)).mono fun e w' ⟨he, hw⟩ => ?_
    subst hw
    have e2 : s.setFloor a = s := by simp [St.setFloor, ha]
    rw [e2]
    exact ⟨he, Turn.refl _ _ _, g, m.mono (by omega), hA⟩
  | false =>
    have hb := ha
    unfold St.floorBad at hb
    have hb := of_decide_eq_false hb
    have h1 := m.one
    obtain ⟨k, rfl⟩ : ∃ k : Nat, a = k := ⟨a.toNat, by omega⟩
    simp only [St.floorErr, ha]
    refine (refSetFloor_is m k (by omega) (by omega) hn).mono fun e w' ⟨he, ht, hm⟩ => ⟨he, ht, _, ?_, agree_floor mm hA k (by omega) (by omega)⟩
    show RefM w' Q M _ _ (s.setFloor k).c.length (s.setFloor k).h (s.setFloor k).f
    rw [hl]
    simp only [St.setFloor, ha, Int.toNat_natCast]
    exact hm.mono (by omega)

theorem refAlloc_any {w : World} {Q M n B R : Nat} {g : Int → Int} {s : St} {w0 : World} (m : RefT w Q M n g s) (mm : MemS w0 B R s) (hA : Agree s g) (hn : n < 1000000000) (k : Int) :
    Calls Try.prog 20 #[ptr Q, iv k] w fun e w' => e = .returned (.tuple #[iv (s.allocAt k), iv (s.allocErr k)]) ∧ Turn Q M w w' ∧ ∃ g', RefT w' Q M (n + (s.c.length + 1)) g' (s.alloc k) ∧ Agree (s.alloc k) g' := by
  have hl := len_alloc mm k
  by_cases h0 : k < 0
  · have hb : s.allocBad k = true := by simp [St.allocBad, h0]
    simp only [St.allocErr, St.allocAt, hb, if_pos h0]
    have e2 : s.alloc k = s := by simp [St.alloc, hb]
    rw [e2]
    exact (refAlloc_arg m k h0).mono fun e w' ⟨he, hw⟩ => by subst hw; exact ⟨he, Turn.refl _ _ _, g, m.mono (by omega), hA⟩
  · by_cases h1 : (s.f : Int) - s.h < k
    · have hb : s.allocBad k = true := by simp [St.allocBad, h1]
      simp only [St.allocErr, St.allocAt, hb, if_neg h0, if_pos h1]
      have e2 : s.alloc k = s := by simp [St.alloc, hb]
      rw [e2]
      exact (refAlloc_no m k (by omega) h1).mono fun e w' ⟨he, hw⟩ => by subst hw; exact ⟨he, (Turn.refl _ _ _).drew, g, m.drew.mono (by omega), hA⟩
    · have hb : s.allocBad k = false := by simp [St.allocBad]; omega
      obtain ⟨j, rfl⟩ : ∃ j : Nat, k = j := ⟨k.toNat, by omega⟩
      simp only [St.allocErr, St.allocAt, hb, if_neg h0, if_neg h1]
      refine (refAlloc_is m j (by omega) hn).mono fun e w' ⟨he, ht, hm⟩ => ⟨he, ht, _, ?_, agree_alloc mm hA j (by omega)⟩
      show RefM w' Q M _ _ (s.alloc j).c.length (s.alloc j).h (s.alloc j).f
      rw [hl]
      simp only [St.alloc, hb, Int.toNat_natCast]
      exact hm.mono (by omega)

end Go.Proofs.Ytmpfcplkgkhboaa
