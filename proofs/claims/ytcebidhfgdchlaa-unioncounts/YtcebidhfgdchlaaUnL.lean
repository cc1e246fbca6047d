/-
  Classes as a relation of keys (layer 8): what adding and joining make of it. No program is named.
-/
import Derived.Test.YtcebidhfgdchlaaUnS
import Derived.Test.YtcebidhfgdchlaaUnF
namespace Go.Proofs.Ytcebidhfgdchlaa

theorem Added.ks {st st' : List Th} {k : Int} {i : Nat} {new : Bool} (hU : UF st) (h : Added st k st' i new) : (∀ x y, KS st' x y ↔ KS st x y ∨ (x = k ∧ y = k)) ∧ (new = true ↔ ¬ KS st k k) ∧ roots st' = roots st + new.toNat := by
  obtain ⟨h1, h2, h3, ⟨rfl, rfl⟩ | ⟨rfl, h4, rfl⟩⟩ := h
  · have hk : KS st' k k := (ks_self hU k).2 (key_mem.2 ⟨i, h2, h3⟩)
    exact ⟨fun x y => ⟨.inl, fun h => h.elim id (fun ⟨e1, e2⟩ => by rw [e1, e2]; exact hk)⟩, ⟨fun h => (by cases h), fun h => absurd hk h⟩, rfl⟩
  · exact ⟨ks_lone hU k, ⟨fun _ h => h4 ((ks_self hU k).1 h), fun _ => rfl⟩, roots_lone st k⟩
theorem ks_symm {st : List Th} {x y : Int} (h : KS st x y) : KS st y x := by
  obtain ⟨i, j, r, h1, h2, h3, h4⟩ := h
  exact ⟨j, i, r, h2, h1, h4, h3⟩
/-- What a join makes of the classes. -/
theorem JoinR.ks {st st' : List Th} {a b : Int} {res : Bool} (hU : UF st) (h : JoinR st a b st' res) :
    UF st' ∧ st'.length ≤ st.length + 2 ∧ ∃ E : Int → Int → Prop, (∀ x y, E x y ↔ KS st x y ∨ (x = a ∧ y = a) ∨ (x = b ∧ y = b)) ∧ (∀ x y, KS st' x y ↔ E x y ∨ (res = true ∧ ((E x a ∧ E b y) ∨ (E x b ∧ E a y)))) ∧ (res = true ↔ ¬ E a b) ∧
      ∃ n1 n2 : Bool, (n1 = true ↔ ¬ KS st a a) ∧ (n2 = true ↔ ¬ (KS st b b ∨ b = a)) ∧ roots st' + res.toNat = roots st + n1.toNat + n2.toNat := by
  obtain ⟨st1, i, n1, st2, j, n2, had1, had2, hi, hik, hh⟩ := h
  obtain ⟨k1, m1, r1⟩ := had1.ks hU
  obtain ⟨k2, m2, r2⟩ := had2.ks had1.1
  have hl1 := had1.len
  have hl2 := had2.len
  have hj := had2.2.1
  have hjk := had2.2.2.1
  have hU2 := had2.1
  have hE : ∀ x y, KS st2 x y ↔ KS st x y ∨ (x = a ∧ y = a) ∨ (x = b ∧ y = b) := fun x y => by rw [k2, k1]; exact or_assoc
  have m2' : (n2 = true ↔ ¬ (KS st b b ∨ b = a)) := by rw [m2, k1]; simp
  rcases hh with ⟨rfl, rfl, r, t1, t2⟩ | ⟨rfl, T, L, hTL, ht, rfl⟩
  · refine ⟨hU2, by omega, KS st', hE, fun x y => ⟨.inl, fun h => h.elim id (fun h => absurd h.1 (by simp))⟩, ⟨fun h => (by cases h), fun h => absurd ⟨i, j, r, t1, t2, hik, hjk⟩ h⟩, n1, n2, m1, m2', ?_⟩
    rw [r2, r1]; rfl
  · have hTt : Top st2 T T ∧ T < st2.length ∧ (at_ st2 T).above = T := by
      rcases ht with ⟨h1, _⟩ | ⟨_, h1⟩
      · exact ⟨.here h1.lt.2.1 h1.lt.2.2, h1.lt.2⟩
      · exact ⟨.here h1.lt.2.1 h1.lt.2.2, h1.lt.2⟩
    have hLt : Top st2 L L ∧ L < st2.length ∧ (at_ st2 L).above = L := by
      rcases ht with ⟨_, h1⟩ | ⟨h1, _⟩
      · exact ⟨.here h1.lt.2.1 h1.lt.2.2, h1.lt.2⟩
      · exact ⟨.here h1.lt.2.1 h1.lt.2.2, h1.lt.2⟩
    have hno : ¬ KS st2 a b := fun ⟨i', j', r, t1, t2, e1, e2⟩ => by
      have x1 := key_inj hU2 t1.lt.1 hi (e1.trans hik.symm)
      have x2 := key_inj hU2 t2.lt.1 hj (e2.trans hjk.symm)
      subst x1 x2
      rcases ht with ⟨h1, h2⟩ | ⟨h1, h2⟩
      · exact hTL ((h1.det t1).trans (h2.det t2).symm)
      · exact hTL ((h2.det t2).trans (h1.det t1).symm)
    have hr := roots_joined hTt.2.1 hLt.2.1 hTL hLt.2.2
    refine ⟨(hU2.join hTt.2.1 hLt.2.1 hTL hTt.2.2 hLt.2.2).1, by rw [joined_len]; omega, KS st2, hE, fun x y => ?_, ⟨fun _ => hno, fun _ => rfl⟩, n1, n2, m1, m2', ?_⟩
    · rcases ht with ⟨h1, h2⟩ | ⟨h1, h2⟩
      · rw [ks_joined hU2 hTt.2.1 hLt.2.1 hTL hTt.2.2 hLt.2.2 h1 h2, hik, hjk]; simp
      · rw [ks_joined hU2 hTt.2.1 hLt.2.1 hTL hTt.2.2 hLt.2.2 h2 h1, hik, hjk]
        simp only [true_and]
        exact or_congr Iff.rfl or_comm
    · rw [show true.toNat = 1 from rfl, hr, r2, r1]

end Go.Proofs.Ytcebidhfgdchlaa
