/-
  Blocks in a row with one edge back, as lists (layer 6): their order, back edge and loop. No program is named.
-/
import Derived.Test.YtchnjjdhffmkpaaLpP
namespace Go.Proofs.Ytchnjjdhffmkpaa

def chRow (n f t i : Nat) : List Nat := (if i + 1 < n then [i + 1] else []) ++ (if i = f then [t] else [])
def chG (n f t k : Nat) : List (List Nat) := (List.range k).map (chRow n f t)
theorem chG_len (n f t k : Nat) : (chG n f t k).length = k := by simp [chG]
theorem chG_at (n f t k b : Nat) (h : b < k) : (chG n f t k).getD b [] = chRow n f t b := by
  rw [List.getD_eq_getElem?_getD]; simp [chG, h]
theorem chG_succ (n f t k : Nat) : chG n f t (k + 1) = chG n f t k ++ [chRow n f t k] := by
  unfold chG; rw [List.range_succ, List.map_append]; rfl
theorem mem_chRow (n f t i v : Nat) : v ∈ chRow n f t i ↔ (i + 1 < n ∧ v = i + 1) ∨ (i = f ∧ v = t) := by
  unfold chRow
  by_cases h1 : i + 1 < n <;> by_cases h2 : i = f <;> simp [h1, h2]
theorem chRow_len (n f t i : Nat) : (chRow n f t i).length ≤ 2 := by
  unfold chRow
  rw [List.length_append]
  split <;> split <;> simp
theorem ch_right (n f t : Nat) (h1 : 1 ≤ n) (h2 : n ≤ 60) (h3 : t ≤ f) (h4 : f < n) : Right (chG n f t n) := by
  refine ⟨by rw [chG_len]; exact h1, by rw [chG_len]; omega, fun b => ?_, fun b v hv => ?_⟩
  · rcases Nat.lt_or_ge b n with h | h
    · rw [chG_at _ _ _ _ _ h]; have := chRow_len n f t b; omega
    · rw [getD_ge _ _ (by rw [chG_len]; exact h)]; simp
  · rw [chG_len]
    rcases Nat.lt_or_ge b n with h | h
    · rw [chG_at _ _ _ _ _ h, mem_chRow] at hv; omega
    · rw [getD_ge _ _ (by rw [chG_len]; exact h)] at hv; cases hv

def below (n i : Nat) : List Bool := (List.range n).map fun x => decide (x < i)
theorem below_at (n i x : Nat) (h : x < n) : (below n i)[x]? = some (decide (x < i)) := by simp [below, h]
theorem below_set (n i : Nat) (_h : i < n) : (below n i).set i true = below n (i + 1) := by
  apply List.ext_getElem?
  intro x
  by_cases hx : x < n
  · rw [below_at _ _ _ hx]
    by_cases e : i = x
    · subst e; rw [List.getElem?_set_self (by simp [below]; exact hx)]; simp
    · rw [List.getElem?_set_ne e, below_at _ _ _ hx]
      congr 1
      by_cases h1 : x < i
      · simp [h1]; omega
      · simp [h1]; omega
  · rw [List.getElem?_eq_none (by simp [below]; omega), List.getElem?_eq_none (by simp [below]; omega)]
theorem ch_walk1 (n f t : Nat) (h3 : t ≤ f) (h4 : f < n) : ∀ (d i : Nat), i + d + 1 = n → Walk (chG n f t n) [i] (below n i) (below n n) ((List.range' i (d + 1)).reverse)
  | 0, i, hi => by
    have e : (List.range' i (0 + 1)).reverse = [] ++ i :: [] := by simp
    rw [e]
    refine .go (by rw [below_at _ _ _ (by omega)]; simp) ?_ (.nil _)
    rw [chG_at _ _ _ _ _ (by omega), below_set _ _ (by omega), show i + 1 = n by omega]
    unfold chRow
    rw [if_neg (by omega)]
    by_cases h : i = f
    · rw [if_pos h]
      exact .skip (by rw [below_at _ _ _ (by omega)]; simp; omega) (.nil _)
    · rw [if_neg h]; exact .nil _
  | d + 1, i, hi => by
    have e : (List.range' i (d + 1 + 1)).reverse = ((List.range' (i + 1) (d + 1)).reverse ++ []) ++ i :: [] := by
      rw [List.range'_succ (s := i), List.reverse_cons]; simp
    rw [e]
    refine .go (by rw [below_at _ _ _ (by omega)]; simp) ?_ (.nil _)
    rw [chG_at _ _ _ _ _ (by omega), below_set _ _ (by omega)]
    unfold chRow
    rw [if_pos (by omega)]
    refine Walk.append (ch_walk1 n f t h3 h4 d (i + 1) (by omega)) ?_
    by_cases h : i = f
    · rw [if_pos h]
      exact .skip (by rw [below_at _ _ _ (by omega)]; simp; omega) (.nil _)
    · rw [if_neg h]; exact .nil _
theorem ch_walk (n f t : Nat) (h1 : 1 ≤ n) (h3 : t ≤ f) (h4 : f < n) : Walk (chG n f t n) [0] (List.replicate n false) (below n n) (List.range n).reverse := by
  have := ch_walk1 n f t h3 h4 (n - 1) 0 (by omega)
  rw [show n - 1 + 1 = n by omega, ← List.range_eq_range'] at this
  have e : below n 0 = List.replicate n false := by
    apply List.ext_getElem?
    intro x
    by_cases hx : x < n
    · rw [below_at _ _ _ hx, List.getElem?_replicate, if_pos hx]; simp
    · rw [List.getElem?_eq_none (by simp [below]; omega), List.getElem?_eq_none (by simp; omega)]
  rwa [e] at this
theorem plc_range (n x : Nat) (h : x < n) : plc (List.range n) x = x + 1 := by
  unfold plc
  rw [if_pos (List.mem_range.2 h)]
  have hx : x < (List.range n).length := by simpa using h
  have := (List.nodup_range (n := n)).idxOf_getElem x hx
  rw [List.getElem_range] at this
  rw [this]
theorem ch_backTo (n f t : Nat) (h3 : t ≤ f) (h4 : f < n) : ∀ k, k ≤ n → backTo (plc (List.range n)) (chG n f t n) k = if f < k then [(f, t)] else []
  | 0, _ => by simp [backTo]
  | k + 1, hk => by
    rw [backTo_succ, ch_backTo n f t h3 h4 k (by omega), chG_at _ _ _ _ _ (by omega), plc_range _ _ (by omega), if_neg (show ¬ k + 1 = 0 by omega)]
    unfold chRow
    by_cases h1 : k + 1 < n
    · rw [if_pos h1]
      by_cases h2 : k = f
      · subst h2
        rw [if_pos rfl, if_neg (Nat.lt_irrefl _), if_pos (by omega)]
        have a1 : backRow (plc (List.range n)) k [k + 1, t] 2 = [(k, t)] := by
          rw [backRow_succ, backRow_succ]
          simp only [backRow, List.range_zero, List.flatMap_nil, List.nil_append]
          rw [if_neg, if_pos]
          · rfl
          · refine ⟨?_, ?_⟩
            · show plc _ t ≤ _
              rw [plc_range _ _ (by omega), plc_range _ _ (by omega)]; omega
            · show t ∉ [k + 1]
              simp; omega
          · rintro ⟨a, _⟩
            have a' : plc (List.range n) (k + 1) ≤ plc (List.range n) k := a
            rw [plc_range _ _ h1, plc_range _ _ (by omega)] at a'; omega
        exact a1
      · rw [if_neg h2]
        have a1 : backRow (plc (List.range n)) k ([k + 1] ++ []) ([k + 1] ++ []).length = [] := by
          show backRow _ _ [k + 1] 1 = []
          rw [backRow_succ]
          simp only [backRow, List.range_zero, List.flatMap_nil, List.nil_append]
          rw [if_neg]
          rintro ⟨a, _⟩
          have a' : plc (List.range n) (k + 1) ≤ plc (List.range n) k := a
          rw [plc_range _ _ h1, plc_range _ _ (by omega)] at a'; omega
        rw [a1, List.append_nil]
        by_cases h5 : f < k
        · rw [if_pos h5, if_pos (by omega)]
        · rw [if_neg h5, if_neg (by omega)]
    · rw [if_neg h1]
      by_cases h2 : k = f
      · subst h2
        rw [if_pos rfl, if_neg (Nat.lt_irrefl _), if_pos (by omega)]
        have a1 : backRow (plc (List.range n)) k [t] 1 = [(k, t)] := by
          rw [backRow_succ]
          simp only [backRow, List.range_zero, List.flatMap_nil, List.nil_append]
          rw [if_pos]
          · rfl
          · refine ⟨?_, ?_⟩
            · show plc _ t ≤ _
              rw [plc_range _ _ (by omega), plc_range _ _ (by omega)]; omega
            · show t ∉ []
              simp
        exact a1
      · rw [if_neg h2]
        have a1 : backRow (plc (List.range n)) k ([] ++ []) ([] ++ [] : List Nat).length = [] := rfl
        rw [a1, List.append_nil, if_pos (by omega), if_pos (by omega)]
theorem ch_back (n f t : Nat) (h3 : t ≤ f) (h4 : f < n) : backL (plc (List.range n)) (chG n f t n) = [(f, t)] := by
  unfold backL; rw [chG_len, ch_backTo n f t h3 h4 n (Nat.le_refl _), if_pos h4]

theorem range_mid (t f : Nat) (n : Nat) : (List.range n).filter (fun x => decide (t < x) && decide (x ≤ f)) = List.range' (t + 1) (min (f + 1) n - (t + 1)) := by
  induction n with
  | zero => simp
  | succ n ih =>
    rw [List.range_succ, List.filter_append, ih]
    by_cases h : t < n ∧ n ≤ f
    · rw [show min (f + 1) (n + 1) - (t + 1) = (min (f + 1) n - (t + 1)) + 1 by omega, List.range'_concat]
      rw [List.filter_cons_of_pos (by simp [h.1, h.2])]
      rw [show t + 1 + 1 * (min (f + 1) n - (t + 1)) = n by omega]; rfl
    · rw [List.filter_cons_of_neg (by simpa using fun h' => by omega), show min (f + 1) (n + 1) - (t + 1) = min (f + 1) n - (t + 1) by omega]; simp

theorem ch_loop (n f t : Nat) (h3 : t ≤ f) (h4 : f < n) : loopRow (predsL (chG n f t n)) t [f] (List.range n).reverse = List.range' t (f - t + 1) := by
  have hlen := chG_len n f t n
  have hed : ∀ x v, v < n → (x ∈ (predsL (chG n f t n)).getD v [] ↔ x < n ∧ ((x + 1 < n ∧ v = x + 1) ∨ (x = f ∧ v = t))) := fun x v hv => by
    rw [mem_predsL _ _ _ (by rw [hlen]; exact hv)]
    rcases Nat.lt_or_ge x n with h | h
    · rw [chG_at _ _ _ _ _ h, mem_chRow]; simp [h]
    · rw [getD_ge _ _ (by rw [hlen]; exact h)]; simp; omega
  obtain ⟨m2, W, hW⟩ := Walk.ex (predsL (chG n f t n)) n (fun b x hx => by
      rcases Nat.lt_or_ge b n with h' | h'
      · exact ((hed x b h').1 hx).1
      · rw [getD_ge _ _ (by rw [predsL_len, hlen]; exact h')] at hx; cases hx) _ ((List.replicate n false).set t true) [f] (Nat.le_refl _) (by simp) (fun x hx => by simp at hx; omega)
  have hmk : ∀ x, ((List.replicate n false).set t true)[x]? = some true ↔ x = t := fun x => by
    rw [set_at _ _ _ (by rw [List.getElem?_replicate, if_pos (by omega)]), repl_at]; simp
  have htW : t ∉ W := fun hc => by
    have a := hW.unmet t hc
    rw [(hmk t).2 rfl] at a; cases a
  have hWlt : ∀ x ∈ W, x < n := fun x hx => by simpa using hW.lt x hx
  have h5 : ∀ x ∈ W, t < x ∧ x ≤ f := fun x hx => by
    obtain ⟨s, hs, hp⟩ := hW.path x hx
    simp at hs; subst hs
    have key : ∀ y, Path (predsL (chG n s t n)) (· ∈ W) s y → t < y ∧ y ≤ s := fun y hy => by
      induction hy with
      | refl hm => exact ⟨by have : s ≠ t := fun e => htW (e ▸ hm); omega, Nat.le_refl _⟩
      | @step a b _ he hm ih =>
        have ha : a < n := by omega
        have := ((hed b a ha).1 he)
        have hbt : b ≠ t := fun e => htW (e ▸ hm)
        omega
    exact key x hp
  have h6 : ∀ (d x : Nat), x + d = f → t < x → x ∈ W := fun d => by
    induction d with
    | zero =>
      intro x hx hxt
      have := hW.todo f (by simp)
      rw [hW.met, hmk] at this
      obtain rfl : x = f := by omega
      exact this.resolve_left (by omega)
    | succ d ih =>
      intro x hx hxt
      have h7 := ih (x + 1) (by omega) (by omega)
      have := hW.closed (x + 1) h7 x ((hed x (x + 1) (by omega)).2 ⟨by omega, .inl ⟨by omega, rfl⟩⟩)
      rw [hW.met, hmk] at this
      exact this.resolve_left (by omega)
  unfold loopRow
  rw [predsL_len, hlen, hW.out]
  have e : (List.range n).filter (fun x => decide (x ∈ W) && decide (x ∈ (List.range n).reverse)) = (List.range n).filter (fun x => decide (t < x) && decide (x ≤ f)) := by
    apply List.filter_congr
    intro x hx
    rw [List.mem_range] at hx
    have : decide (x ∈ (List.range n).reverse) = true := by simp [hx]
    rw [this, Bool.and_true, Bool.eq_iff_iff]
    simp only [decide_eq_true_eq, Bool.and_eq_true]
    exact ⟨fun h => h5 x h, fun h => h6 (f - x) x (by omega) h.1⟩
  rw [e, range_mid, List.range'_succ, show min (f + 1) n - (t + 1) = f - t by omega]
theorem ch_loopsTo (n f t : Nat) (h3 : t ≤ f) (h4 : f < n) : ∀ k, loopsTo (chG n f t n) (List.range n).reverse k = if t < k then [List.range' t (f - t + 1)] else []
  | 0 => by simp [loopsTo]
  | k + 1 => by
    rw [loopsTo_succ, ch_loopsTo n f t h3 h4 k, List.reverse_reverse, ch_back n f t h3 h4]
    by_cases h : k = t
    · subst h
      have e : aheadL [(f, k)] k = [f] := by simp [aheadL]
      rw [e, if_neg (Nat.lt_irrefl _), if_neg (by simp), if_pos (by omega), ch_loop n f k h3 h4]; rfl
    · have e : aheadL [(f, t)] k = [] := by
        unfold aheadL; rw [List.filter_cons_of_neg (by simpa using fun e => h e.symm)]; rfl
      rw [e, if_pos rfl, List.append_nil]
      by_cases h5 : t < k
      · rw [if_pos h5, if_pos (by omega)]
      · rw [if_neg h5, if_neg (by omega)]
theorem ch_loops (n f t : Nat) (h3 : t ≤ f) (h4 : f < n) : loopsTo (chG n f t n) (List.range n).reverse n = [List.range' t (f - t + 1)] := by
  rw [ch_loopsTo n f t h3 h4 n, if_pos (by omega)]

end Go.Proofs.Ytchnjjdhffmkpaa
