/-
  Runs added up; few; the law MachineParts where nothing is played (layer 4).
-/
import Derived.Test.YthokpdalojfmiaaSmall
namespace Go.Proofs.Ythokpdalojfmiaa
open Go.ChangeShapes Go.WideShapes Go.ChangeAt Go.RowKit

theorem run_over (l : List Ins) (n : Nat) (s : MS) (h : s.over = true) : runM l n s = (s, 0) := by
  cases n with
  | zero => rfl
  | succ n => exact if_pos h
theorem run_add (l : List Ins) : ∀ (n m : Nat) (s : MS), runM l (n + m) s = ((runM l m (runM l n s).1).1, (runM l n s).2 + (runM l m (runM l n s).1).2)
  | 0, m, s => by rw [Nat.zero_add]; simp [runM]
  | n + 1, m, s => by
    by_cases h : s.over = true
    · rw [run_over l _ s h, run_over l _ s h]; simp [run_over l m s h]
    · have e1 : runM l (n + 1) s = ((runM l n (stepM l s)).1, (runM l n (stepM l s)).2 + 1) := if_neg h
      have e2 : runM l (n + 1 + m) s = ((runM l (n + m) (stepM l s)).1, (runM l (n + m) (stepM l s)).2 + 1) := by
        rw [show n + 1 + m = (n + m) + 1 by omega]; exact if_neg h
      rw [e2, e1, run_add l n m (stepM l s)]
      simp; omega
theorem run_full (l : List Ins) : ∀ (n : Nat) (s : MS), (runM l n s).1.over = true ∨ (runM l n s).2 = n
  | 0, s => .inr rfl
  | n + 1, s => by
    by_cases h : s.over = true
    · rw [run_over l _ s h]; exact .inl h
    · have e1 : runM l (n + 1) s = ((runM l n (stepM l s)).1, (runM l n (stepM l s)).2 + 1) := if_neg h
      rw [e1]
      rcases run_full l n (stepM l s) with h1 | h1
      · exact .inl h1
      · exact .inr (by simp [h1])
theorem run_le (l : List Ins) : ∀ (n : Nat) (s : MS), (runM l n s).2 ≤ n
  | 0, s => Nat.le_refl _
  | n + 1, s => by
    by_cases h : s.over = true
    · rw [run_over l _ s h]; exact Nat.zero_le _
    · have e1 : runM l (n + 1) s = ((runM l n (stepM l s)).1, (runM l n (stepM l s)).2 + 1) := if_neg h
      rw [e1]
      have := run_le l n (stepM l s)
      simp; omega
theorem run_out (l : List Ins) : ∀ (n : Nat) (s : MS), (runM l n s).1.out.length ≤ s.out.length + n
  | 0, s => Nat.le_refl _
  | n + 1, s => by
    by_cases h : s.over = true
    · rw [run_over l _ s h]; simp
    · have e1 : runM l (n + 1) s = ((runM l n (stepM l s)).1, (runM l n (stepM l s)).2 + 1) := if_neg h
      rw [e1]
      have := run_out l n (stepM l s)
      have := step_len l s
      simp; omega

/-- May code be played? -/
def fewB (n : Nat) (cells : Int) (k : Nat) : Bool := decide (n ≤ 200 ∧ (cells ≤ 1024 ∨ 1048576 < cells) ∧ k ≤ 100)
theorem few_any (a b : Option Addr) (n c k d : Nat) (cells : Int) (w : World) : Calls Try.prog 7 #[.slice a n c, iv cells, .slice b k d] w fun e w' => e = .returned (.bool (fewB n cells k)) ∧ w' = w := by
  unfold fewB
  by_cases h1 : n ≤ 200
  · have e1 : ((n : Int) ≤ 200) = True := by simp; omega
    by_cases h2 : cells ≤ 1024
    · have e2 : (cells ≤ 1024) = True := by simp; omega
      by_cases h3 : k ≤ 100
      · have e3 : ((k : Int) ≤ 100) = True := by simp; omega
        have : decide (n ≤ 200 ∧ (cells ≤ 1024 ∨ 1048576 < cells) ∧ k ≤ 100) = true := by simp; omega
        rw [this]
        clear h1 h2 h3 this
        go_enter Try.func7, Try.ntmps7
        go_wp2
        go_ret
        exact ⟨rfl, rfl⟩
      · have e3 : ((k : Int) ≤ 100) = False := by simp; omega
        have : decide (n ≤ 200 ∧ (cells ≤ 1024 ∨ 1048576 < cells) ∧ k ≤ 100) = false := by simp; omega
        rw [this]
        clear h1 h2 h3 this
        go_enter Try.func7, Try.ntmps7
        go_wp2
        go_ret
        exact ⟨rfl, rfl⟩
    · have e2 : (cells ≤ 1024) = False := by simp; omega
      by_cases h4 : 1048576 < cells
      · have e4 : (1048576 < cells) = True := by simp; omega
        by_cases h3 : k ≤ 100
        · have e3 : ((k : Int) ≤ 100) = True := by simp; omega
          have : decide (n ≤ 200 ∧ (cells ≤ 1024 ∨ 1048576 < cells) ∧ k ≤ 100) = true := by simp; omega
          rw [this]
          clear h1 h2 h3 h4 this
          go_enter Try.func7, Try.ntmps7
          go_wp2
          go_ret
          exact ⟨rfl, rfl⟩
        · have e3 : ((k : Int) ≤ 100) = False := by simp; omega
          have : decide (n ≤ 200 ∧ (cells ≤ 1024 ∨ 1048576 < cells) ∧ k ≤ 100) = false := by simp; omega
          rw [this]
          clear h1 h2 h3 h4 this
          go_enter Try.func7, Try.ntmps7
          go_wp2
          go_ret
          exact ⟨rfl, rfl⟩
      · have e4 : (1048576 < cells) = False := by simp; omega
        have : decide (n ≤ 200 ∧ (cells ≤ 1024 ∨ 1048576 < cells) ∧ k ≤ 100) = false := by simp; omega
        rw [this]
        clear h1 h2 h4 this
        go_enter Try.func7, Try.ntmps7
        go_wp2
        go_ret
        exact ⟨rfl, rfl⟩
  · have e1 : ((n : Int) ≤ 200) = False := by simp; omega
    have : decide (n ≤ 200 ∧ (cells ≤ 1024 ∨ 1048576 < cells) ∧ k ≤ 100) = false := by simp; omega
    rw [this]
    clear h1 this
    go_enter Try.func7, Try.ntmps7
    go_wp2
    go_ret
    exact ⟨rfl, rfl⟩
theorem few_of {D E : Nat → Prop} {w : World} {cv nv : Value} {l : List Ins} {inp : List Int} (h1 : RowAt D w cv l) (h2 : IntsAt E w nv inp) (cells : Int) (w' : World) :
    Calls Try.prog 7 #[cv, iv cells, nv] w' fun e w'' => e = .returned (.bool (fewB l.length cells inp.length)) ∧ w'' = w' := by
  obtain ⟨a, c, rfl, _⟩ := h1
  obtain ⟨b, d, rfl, _⟩ := h2
  exact few_any a b _ c _ d cells w'

theorem eql_end (x y : Int) (w : World) : (binOp .eql 32 (.agg #[iv x, iv y]) (.agg #[iv x, iv y])).run Try.prog w = .ok (.bool true) w := by
  go_simp

theorem made_one {N : Nat} {w w' : World} {l : List Ins} {cells : Int} {inp : List Int} {e : Ending} (h : NewAns w l cells inp e w') (hN : N ≤ w.heap.size) :
    Below N w w' ∧ Below w.heap.size w w' ∧ ((newE l cells ≠ 0 ∧ e = .returned (.tuple #[.pointer none, iv (newE l cells)])) ∨
    (newE l cells = 0 ∧ ∃ B F, e = .returned (.tuple #[ptr B, iv 0]) ∧ (∀ k, F k → w.heap.size ≤ k) ∧ Own N w' F B l (MS.init cells.toNat inp))) := by
  obtain ⟨hb, h⟩ := h
  refine ⟨hb.mono hN, hb, ?_⟩
  rcases h with h | ⟨h0, B, F, he, hF, m⟩
  · exact .inl h
  · exact .inr ⟨h0, B, F, he, hF, m, fun k hk => Nat.le_trans hN (hF k hk)⟩

set_option maxRecDepth 100000 in
set_option maxHeartbeats 2000000 in
theorem parts_no {w : World} {cv nv : Value} {l : List Ins} {inp : List Int} (cells n m : Int) (hc : RowAt (fun k => k < w.heap.size) w cv l) (hi : IntsAt (fun k => k < w.heap.size) w nv inp)
    (h : fewB l.length cells inp.length = false ∨ n < 0 ∨ m < 0 ∨ 2000 < n ∨ 2000 < m) :
    Calls Try.prog 3 #[cv, iv cells, nv, iv n, iv m] w fun e w' => e = .returned (.bool true) ∧ Below w.heap.size w w' := by
  have hf := few_of hc hi cells
  cases hb : fewB l.length cells inp.length with
  | false =>
    rw [hb] at hf
    clear h hb hc hi
    go_enter Try.func3, Try.ntmps3
    go_wp2_with fail
    refine (small_any w).mono ?_; rintro e w1 ⟨rfl, hb1⟩
    go_wp2_with fail
    refine (hf w1).mono ?_; rintro e w2 ⟨rfl, rfl⟩
    go_wp2_with fail
    go_ret
    exact ⟨rfl, hb1⟩
  | true =>
    rw [hb] at hf h
    by_cases h1 : n < 0
    · have e1 : (n < 0) = True := by simp; omega
      clear h hb hc hi h1
      go_enter Try.func3, Try.ntmps3
      go_wp2_with fail
      refine (small_any w).mono ?_; rintro e w1 ⟨rfl, hb1⟩
      go_wp2_with fail
      refine (hf w1).mono ?_; rintro e w2 ⟨rfl, rfl⟩
      go_wp2_with fail
      go_ret
      exact ⟨rfl, hb1⟩
    have e1 : (n < 0) = False := by simp; omega
    by_cases h2 : m < 0
    · have e2 : (m < 0) = True := by simp; omega
      clear h hb hc hi h1 h2
      go_enter Try.func3, Try.ntmps3
      go_wp2_with fail
      refine (small_any w).mono ?_; rintro e w1 ⟨rfl, hb1⟩
      go_wp2_with fail
      refine (hf w1).mono ?_; rintro e w2 ⟨rfl, rfl⟩
      go_wp2_with fail
      go_ret
      exact ⟨rfl, hb1⟩
    have e2 : (m < 0) = False := by simp; omega
    by_cases h3 : 2000 < n
    · have e3 : (2000 < n) = True := by simp; omega
      clear h hb hc hi h1 h2 h3
      go_enter Try.func3, Try.ntmps3
      go_wp2_with fail
      refine (small_any w).mono ?_; rintro e w1 ⟨rfl, hb1⟩
      go_wp2_with fail
      refine (hf w1).mono ?_; rintro e w2 ⟨rfl, rfl⟩
      go_wp2_with fail
      go_ret
      exact ⟨rfl, hb1⟩
    have e3 : (2000 < n) = False := by simp; omega
    have h4 : 2000 < m := by
      rcases h with h | h | h | h | h
      · cases h
      · omega
      · omega
      · omega
      · exact h
    have e4 : (2000 < m) = True := by simp; omega
    clear h hb hc hi h1 h2 h3 h4
    go_enter Try.func3, Try.ntmps3
    go_wp2_with fail
    refine (small_any w).mono ?_; rintro e w1 ⟨rfl, hb1⟩
    go_wp2_with fail
    refine (hf w1).mono ?_; rintro e w2 ⟨rfl, rfl⟩
    go_wp2_with fail
    go_ret
    exact ⟨rfl, hb1⟩

end Go.Proofs.Ythokpdalojfmiaa
