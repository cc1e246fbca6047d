/-
  Contracts of the document's own Right (layer 2), by walks over the translation.
-/
import Derived.Test.YtbfmadcppnfgpaaDoorRefB
namespace Go.Proofs.YtbfmadcppnfgpaaDoor
open Go.ChangeShapes Go.WideShapes Go.ChangeAt Go.RowKit



theorem fI_three (o : Int) : (fI o = 3) ↔ (o = 4) := by unfold fI; (repeat' split) <;> omega
theorem fM_no {o : Int} (h : fM o = false) : fI o = 0 := by
  unfold fM at h; rw [decide_eq_false_iff_not] at h; unfold fI; (repeat' split) <;> omega
theorem fM_yes {o : Int} (h : fM o = true) : fI o ≠ 0 := by
  unfold fM at h; rw [decide_eq_true_iff] at h; unfold fI; (repeat' split) <;> omega
theorem refright_any (o a b c i : Int) (w : World) :
    Calls Tryd.prog 42 #[.agg #[.int .i64 o, .int .i64 a, .int .i64 b, .int .i64 c, .int .i64 i]] w fun e w' => e = .returned (.bool (rightB o a b c i)) ∧ Below w.heap.size w w' := by
  cases hk : fK o
  · rw [show rightB o a b c i = false by unfold rightB; rw [hk]; rfl]; exact rr1 o a b c i hk w
  cases ha : regB a (fA o)
  · rw [show rightB o a b c i = false by unfold rightB holdB; rw [ha]; simp]; exact rr2 o a b c i hk ha w
  cases hb : regB b (fB o)
  · rw [show rightB o a b c i = false by unfold rightB holdB; rw [hb]; simp]; exact rr3 o a b c i hk ha hb w
  cases hc : regB c (fC o)
  · rw [show rightB o a b c i = false by unfold rightB holdB; rw [hc]; simp]; exact rr4 o a b c i hk ha hb hc w
  rw [show rightB o a b c i = immB i (fI o) by unfold rightB holdB; rw [hk, ha, hb, hc]; simp]
  have f3 := fI_three o
  have f2 := fI_two o
  have fr := fI_range o
  by_cases hz : i = 0
  · have hz' : (i != 0) = false := by simp [hz]
    have lo : decide (i < -2147483648) = false := by simp; omega
    have up : decide (2147483647 < i) = false := by simp; omega
    by_cases h4 : o = 4
    · rw [f3.2 h4]; exact rr8z o a b c i hk ha hb hc hz' lo up (by simp [h4]) w
    · rw [show immB i (fI o) = true by rw [hz]; unfold immB knB; (repeat' split) <;> simp <;> omega]
      exact rr9z o a b c i hk ha hb hc hz' lo up (by simp [h4]) (by omega) w
  · have hz' : (i != 0) = true := by simp [hz]
    cases hm : fM o
    · rw [show immB i (fI o) = false by rw [fM_no hm]; unfold immB; simp [hz]]
      exact rr5 o a b c i hk ha hb hc hz' hm w
    · have f0 := fM_yes hm
      by_cases hlo : i < -2147483648
      · rw [show immB i (fI o) = false by unfold immB knB; (repeat' split) <;> simp <;> omega]
        exact rr6m o a b c i hk ha hb hc hz' hm hlo w
      · have lo : decide (i < -2147483648) = false := by simpa using hlo
        by_cases hup : 2147483647 < i
        · rw [show immB i (fI o) = false by unfold immB knB; (repeat' split) <;> simp <;> omega]
          exact rr7m o a b c i hk ha hb hc hz' hm lo hup w
        · have up : decide (2147483647 < i) = false := by simpa using hup
          by_cases h4 : o = 4
          · rw [f3.2 h4]; exact rr8m o a b c i hk ha hb hc hz' hm lo up (by simp [h4]) w
          · have h4' : (o == 4) = false := by simp [h4]
            by_cases h0 : 0 ≤ i
            · rw [show immB i (fI o) = true by unfold immB knB; (repeat' split) <;> simp <;> omega]
              exact rr9m o a b c i hk ha hb hc hz' hm lo up h4' h0 w
            · have h0' : decide (0 ≤ i) = false := by simpa using h0
              by_cases h7 : o = 7
              · rw [show immB i (fI o) = false by unfold immB knB; (repeat' split) <;> simp <;> omega]
                exact rr10m0 o a b c i hk ha hb hc hz' hm lo up h4' h0' (by simp [h7]) w
              · by_cases h8 : o = 8
                · rw [show immB i (fI o) = false by unfold immB knB; (repeat' split) <;> simp <;> omega]
                  exact rr10m1 o a b c i hk ha hb hc hz' hm lo up h4' h0' (by simp [h7]) (by simp [h8]) w
                · by_cases h9 : o = 9
                  · rw [show immB i (fI o) = false by unfold immB knB; (repeat' split) <;> simp <;> omega]
                    exact rr10m2 o a b c i hk ha hb hc hz' hm lo up h4' h0' (by simp [h7]) (by simp [h8]) (by simp [h9]) w
                  · rw [show immB i (fI o) = true by unfold immB knB; (repeat' split) <;> simp <;> omega]
                    exact rr10m3 o a b c i hk ha hb hc hz' hm lo up h4' h0' (by simp [h7]) (by simp [h8]) (by simp [h9]) w


end Go.Proofs.YtbfmadcppnfgpaaDoor
