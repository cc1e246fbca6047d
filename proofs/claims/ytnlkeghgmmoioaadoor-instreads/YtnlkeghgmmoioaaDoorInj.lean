/-
  Plain facts: unlike right instructions have unlike bytes and texts, and bytes that are read are written alike (layer 2).
-/
import Derived.Test.YtnlkeghgmmoioaaDoorDecode
namespace Go.Proofs.YtnlkeghgmmoioaaDoor
open Go.ChangeShapes Go.WideShapes Go.ChangeAt Go.RowKit


/-! Digits lead back to their number. -/
def valD (l : List UInt8) : Nat := l.foldl (fun s c => 10 * s + (c.toNat - 48)) 0
theorem dig_nat (k : Nat) (h : k < 10) : (UInt8.ofNat (48 + k)).toNat = 48 + k := by rw [UInt8.toNat_ofNat']; omega
theorem valD_dec (n : Nat) : ∀ u, u < n → valD (Lib.decDigits u) = u := by
  induction n with
  | zero => intro u h; omega
  | succ n ih =>
    intro u _
    by_cases h : u < 10
    · rw [Lib.decDigits_one h]; simp only [valD, List.foldl_cons, List.foldl_nil]; rw [dig_nat u h]; omega
    · have e : Lib.decDigits u = Lib.decDigits (u / 10) ++ [UInt8.ofNat (48 + u % 10)] := by rw [Lib.decDigits, dif_neg h]
      have := ih (u / 10) (by omega)
      rw [e]; unfold valD at this ⊢
      rw [List.foldl_append, this]; simp only [List.foldl_cons, List.foldl_nil]; rw [dig_nat _ (by omega)]; omega
theorem dec_inj {u v : Nat} (h : Lib.decDigits u = Lib.decDigits v) : u = v := by
  have h1 := valD_dec (u + 1) u (by omega)
  have h2 := valD_dec (v + 1) v (by omega)
  rw [h] at h1; omega
theorem dec_dig (n : Nat) : ∀ u, u < n → ∀ c ∈ Lib.decDigits u, 48 ≤ c.toNat ∧ c.toNat ≤ 57 := by
  induction n with
  | zero => intro u h; omega
  | succ n ih =>
    intro u _ c hc
    by_cases h : u < 10
    · rw [Lib.decDigits_one h] at hc; simp only [List.mem_singleton] at hc; subst hc; rw [dig_nat u h]; omega
    · have e : Lib.decDigits u = Lib.decDigits (u / 10) ++ [UInt8.ofNat (48 + u % 10)] := by rw [Lib.decDigits, dif_neg h]
      rw [e, List.mem_append] at hc
      rcases hc with hc | hc
      · exact ih (u / 10) (by omega) c hc
      · simp only [List.mem_singleton] at hc; subst hc; rw [dig_nat _ (by omega)]; omega
theorem dec_digits (u : Nat) : ∀ c ∈ Lib.decDigits u, 48 ≤ c.toNat ∧ c.toNat ≤ 57 := dec_dig (u + 1) u (by omega)
theorem itoa_chars (i : Int) : ∀ c ∈ Lib.itoa i, c.toNat ≠ 32 := by
  unfold Lib.itoa
  split
  · intro c hc
    rw [List.mem_cons] at hc
    rcases hc with rfl | hc
    · decide
    · have := dec_digits _ c hc; omega
  · intro c hc
    have := dec_digits _ c hc; omega
theorem itoa_inj {i j : Int} (h : Lib.itoa i = Lib.itoa j) : i = j := by
  unfold Lib.itoa at h
  split at h <;> split at h
  · have := dec_inj (List.cons.inj h).2; omega
  · have := dec_digits j.toNat 45 (by rw [← h]; exact List.mem_cons_self)
    have e : (45 : UInt8).toNat = 45 := rfl
    omega
  · have := dec_digits i.toNat 45 (by rw [h]; exact List.mem_cons_self)
    have e : (45 : UInt8).toNat = 45 := rfl
    omega
  · have := dec_inj h; omega

/-! A text parts at the first sign of another kind in one way alone. -/
theorem split_p (p : UInt8 → Bool) : ∀ (A A' R R' : List UInt8), (∀ c ∈ A, p c = true) → (∀ c ∈ A', p c = true) → (∀ c, R.head? = some c → p c = false) → (∀ c, R'.head? = some c → p c = false) → A ++ R = A' ++ R' → A = A' ∧ R = R'
  | [], [], _, _, _, _, _, _, h => ⟨rfl, h⟩
  | [], x :: A', R, R', _, h2, h3, _, h => by
    rw [List.nil_append] at h
    have := h3 x (by rw [h]; rfl)
    rw [h2 x List.mem_cons_self] at this; cases this
  | x :: A, [], R, R', h1, _, _, h4, h => by
    rw [List.nil_append] at h
    have := h4 x (by rw [← h]; rfl)
    rw [h1 x List.mem_cons_self] at this; cases this
  | x :: A, y :: A', R, R', h1, h2, h3, h4, h => by
    rw [List.cons_append, List.cons_append, List.cons.injEq] at h
    obtain ⟨e1, e2⟩ := split_p p A A' R R' (fun c hc => h1 c (List.mem_cons_of_mem _ hc)) (fun c hc => h2 c (List.mem_cons_of_mem _ hc)) h3 h4 h.2
    exact ⟨by rw [h.1, e1], e2⟩
def noBlank (c : UInt8) : Bool := decide (c.toNat ≠ 32)
def letter (c : UInt8) : Bool := decide (97 ≤ c.toNat)
/-- What may stand behind a number: nothing, or a blank. -/
def Blank (R : List UInt8) : Prop := ∀ c, R.head? = some c → noBlank c = false
theorem blank_nil : Blank [] := fun c h => by cases h
theorem blank_cons (R : List UInt8) : Blank (32 :: R) := fun c h => by cases h; rfl
theorem blank_rt (n : Int) (b : Bool) (R : List UInt8) (h : Blank R) : Blank (rt n b ++ R) := by
  cases b
  · exact h
  · exact blank_cons _
theorem dec_noBlank (u : Nat) : ∀ c ∈ Lib.decDigits u, noBlank c = true := fun c hc => by
  have := dec_digits u c hc; unfold noBlank; simp; omega
theorem itoa_noBlank (i : Int) : ∀ c ∈ Lib.itoa i, noBlank c = true := fun c hc => by
  have := itoa_chars i c hc; unfold noBlank; simpa using this
theorem eat_rt {n m : Int} {b : Bool} {R R' : List UInt8} (hn : regB n b = true) (hm : regB m b = true) (hR : Blank R) (hR' : Blank R') (h : rt n b ++ R = rt m b ++ R') : n = m ∧ R = R' := by
  cases b
  · unfold regB at hn hm; simp at hn hm; exact ⟨by omega, h⟩
  · have bn := regB_true hn
    have bm := regB_true hm
    have h' : 32 :: 114 :: (Lib.decDigits n.toNat ++ R) = 32 :: 114 :: (Lib.decDigits m.toNat ++ R') := h
    rw [List.cons.injEq, List.cons.injEq] at h'
    obtain ⟨e1, e2⟩ := split_p noBlank _ _ _ _ (dec_noBlank _) (dec_noBlank _) hR hR' h'.2.2
    have := dec_inj e1
    exact ⟨by omega, e2⟩

theorem names_letters : ∀ j : Fin 15, ∀ c ∈ namesL.getD j.val [], letter c = true := by decide +kernel
theorem names_inj : ∀ j k : Fin 15, namesL.getD j.val [] = namesL.getD k.val [] → j = k := by decide +kernel
theorem right_all {o a b c i : Int} (h : rightB o a b c i = true) : regB a (fA o) = true ∧ regB b (fB o) = true ∧ regB c (fC o) = true ∧ immB i (fI o) = true := by
  have h2 := (right_parts h).1
  unfold holdB at h2
  rw [Bool.and_eq_true, Bool.and_eq_true, Bool.and_eq_true] at h2
  exact ⟨h2.1.1.1, h2.1.1.2, h2.1.2, h2.2⟩
def tailT (o a b c i : Int) : List UInt8 := (if o = 4 then 46 :: Lib.itoa i else []) ++ (rt a (fA o) ++ (rt b (fB o) ++ (rt c (fC o) ++ (if fI o = 1 ∨ fI o = 2 then 32 :: Lib.itoa i else []))))
theorem txt_eq (o a b c i : Int) : txt o a b c i = namesL.getD o.toNat [] ++ tailT o a b c i := by
  unfold txt tailT; simp only [List.append_assoc]
theorem rt_head (n : Int) (b : Bool) (R : List UInt8) (h : ∀ c, R.head? = some c → letter c = false) : ∀ c, (rt n b ++ R).head? = some c → letter c = false := by
  cases b
  · exact h
  · intro c hc; cases hc; rfl
theorem tail_head (o a b c i : Int) : ∀ x, (tailT o a b c i).head? = some x → letter x = false := by
  unfold tailT
  split
  · intro x hx; cases hx; rfl
  · rw [List.nil_append]
    refine rt_head _ _ _ (rt_head _ _ _ (rt_head _ _ _ ?_))
    split
    · intro x hx; cases hx; rfl
    · intro x hx; cases hx
theorem text_inj {o a b c i o' a' b' c' i' : Int} (h : rightB o a b c i = true) (h' : rightB o' a' b' c' i' = true) (e : txt o a b c i = txt o' a' b' c' i') : o = o' ∧ a = a' ∧ b = b' ∧ c = c' ∧ i = i' := by
  have ho := right_op h
  have ho' := right_op h'
  rw [txt_eq, txt_eq] at e
  obtain ⟨e1, e2⟩ := split_p letter _ _ _ _ (names_letters ⟨o.toNat, by omega⟩) (names_letters ⟨o'.toNat, by omega⟩) (tail_head o a b c i) (tail_head o' a' b' c' i') e
  have eo := names_inj ⟨o.toNat, by omega⟩ ⟨o'.toNat, by omega⟩ e1
  have eo' : o = o' := by have := congrArg Fin.val eo; simp only at this; omega
  subst eo'
  obtain ⟨ra, rb, rc, ri⟩ := right_all h
  obtain ⟨ra', rb', rc', ri'⟩ := right_all h'
  have bl : ∀ j : Int, Blank (if fI o = 1 ∨ fI o = 2 then 32 :: Lib.itoa j else []) := fun j => by
    split
    · exact blank_cons _
    · exact blank_nil
  unfold tailT at e2
  have rest : ∀ R R' : List UInt8, R = rt a (fA o) ++ (rt b (fB o) ++ (rt c (fC o) ++ (if fI o = 1 ∨ fI o = 2 then 32 :: Lib.itoa i else []))) → R' = rt a' (fA o) ++ (rt b' (fB o) ++ (rt c' (fC o) ++ (if fI o = 1 ∨ fI o = 2 then 32 :: Lib.itoa i' else []))) → R = R' → a = a' ∧ b = b' ∧ c = c' ∧ (if fI o = 1 ∨ fI o = 2 then 32 :: Lib.itoa i else []) = (if fI o = 1 ∨ fI o = 2 then 32 :: Lib.itoa i' else []) := by
    intro R R' h1 h2 h3
    rw [h1, h2] at h3
    obtain ⟨k1, k2⟩ := eat_rt ra ra' (blank_rt _ _ _ (blank_rt _ _ _ (bl i))) (blank_rt _ _ _ (blank_rt _ _ _ (bl i'))) h3
    obtain ⟨k3, k4⟩ := eat_rt rb rb' (blank_rt _ _ _ (bl i)) (blank_rt _ _ _ (bl i')) k2
    obtain ⟨k5, k6⟩ := eat_rt rc rc' (bl i) (bl i') k4
    exact ⟨k1, k3, k5, k6⟩
  by_cases h4 : o = 4
  · rw [if_pos h4, if_pos h4, List.cons_append, List.cons_append, List.cons.injEq] at e2
    obtain ⟨q1, q2⟩ := split_p noBlank _ _ _ _ (itoa_noBlank i) (itoa_noBlank i') (blank_rt _ _ _ (blank_rt _ _ _ (blank_rt _ _ _ (bl i)))) (blank_rt _ _ _ (blank_rt _ _ _ (blank_rt _ _ _ (bl i')))) e2.2
    obtain ⟨k1, k2, k3, _⟩ := rest _ _ rfl rfl q2
    exact ⟨rfl, k1, k2, k3, itoa_inj q1⟩
  · rw [if_neg h4, if_neg h4] at e2
    obtain ⟨k1, k2, k3, k4⟩ := rest _ _ rfl rfl e2
    refine ⟨rfl, k1, k2, k3, ?_⟩
    by_cases hf : fI o = 1 ∨ fI o = 2
    · rw [if_pos hf, if_pos hf, List.cons.injEq] at k4
      exact itoa_inj k4.2
    · have f3 : fI o ≠ 3 := by unfold fI; (repeat' split) <;> omega
      have f0 : fI o = 0 := by have := fI_range o; omega
      rw [f0] at ri ri'
      unfold immB at ri ri'
      simp at ri ri'
      omega

/-! Bytes lead back to their instruction. -/
theorem u8_inj {x y : Int} (hx : 0 ≤ x ∧ x < 256) (hy : 0 ≤ y ∧ y < 256) (h : u8 x = u8 y) : x = y := by
  rw [← u8_nat x hx, ← u8_nat y hy, h]
theorem enc_inj {o a b c i o' a' b' c' i' : Int} (h : rightB o a b c i = true) (h' : rightB o' a' b' c' i' = true) (e : encL o a b c i = encL o' a' b' c' i') : o = o' ∧ a = a' ∧ b = b' ∧ c = c' ∧ i = i' := by
  have ho := right_op h
  have ho' := right_op h'
  obtain ⟨_, ha, hb, hc, hi⟩ := right_parts h
  obtain ⟨_, ha', hb', hc', hi'⟩ := right_parts h'
  unfold encL encI at e
  simp only [List.map_cons, List.map_nil, List.cons.injEq, and_true] at e
  obtain ⟨e0, e1, e2, _, e4, e5, e6, e7⟩ := e
  have e0 := u8_inj (by omega) (by omega) e0
  have e1 := u8_inj (by omega) (by omega) e1
  have e2 := u8_inj (by omega) (by omega) e2
  have e4 := u8_inj (by omega) (by omega) e4
  have e5 := u8_inj (by omega) (by omega) e5
  have e6 := u8_inj (by omega) (by omega) e6
  have e7 := u8_inj (by omega) (by omega) e7
  refine ⟨e0, by omega, by omega, e2, by omega⟩
theorem u8_byte (x : UInt8) : u8 (x.toNat : Int) = x := by
  unfold u8; rw [Int.toNat_natCast]; exact UInt8.ofNat_toNat
theorem low_back (p q r s : Int) (hp : 0 ≤ p ∧ p < 256) (hq : 0 ≤ q ∧ q < 256) (hr : 0 ≤ r ∧ r < 256) (hs : 0 ≤ s ∧ s < 256) :
    wrapM 4294967296 (s * 16777216 + (r * 65536 + (q * 256 + p))) true % 256 = p ∧ wrapM 4294967296 (s * 16777216 + (r * 65536 + (q * 256 + p))) true / 256 % 256 = q ∧ wrapM 4294967296 (s * 16777216 + (r * 65536 + (q * 256 + p))) true / 65536 % 256 = r ∧ wrapM 4294967296 (s * 16777216 + (r * 65536 + (q * 256 + p))) true / 16777216 % 256 = s := by
  unfold wrapM
  split <;> refine ⟨?_, ?_, ?_, ?_⟩ <;> omega
/-- Decode answers an error and nothing, or a right instruction whose bytes these are. -/
theorem decR_cases (l : List UInt8) : decR l = .tuple #[.agg #[.int .i64 0, .int .i64 0, .int .i64 0, .int .i64 0, .int .i64 0], .int .i64 2] ∨ ∃ o a b c i, rightB o a b c i = true ∧ encL o a b c i = l ∧ decR l = .tuple #[.agg #[.int .i64 o, .int .i64 a, .int .i64 b, .int .i64 c, .int .i64 i], .int .i64 0] := by
  match l with
  | [x0, x1, x2, x3, x4, x5, x6, x7] =>
    by_cases h3 : x3.toNat = 0
    · have hd : decR [x0, x1, x2, x3, x4, x5, x6, x7] = decV x0.toNat x1.toNat x2.toNat ((x7.toNat : Int) * 16777216 + ((x6.toNat : Int) * 65536 + ((x5.toNat : Int) * 256 + (x4.toNat : Int)))) := if_pos h3
      rw [hd]
      cases hr : rightB x0.toNat ((x1.toNat : Int) / 16) ((x1.toNat : Int) % 16) x2.toNat (wrapM 4294967296 ((x7.toNat : Int) * 16777216 + ((x6.toNat : Int) * 65536 + ((x5.toNat : Int) * 256 + (x4.toNat : Int)))) true)
      · exact .inl (decV_no hr)
      · refine .inr ⟨_, _, _, _, _, hr, ?_, decV_yes hr⟩
        obtain ⟨l4, l5, l6, l7⟩ := low_back x4.toNat x5.toNat x6.toNat x7.toNat (byte_bd x4) (byte_bd x5) (byte_bd x6) (byte_bd x7)
        unfold encL encI
        simp only [List.map_cons, List.map_nil]
        rw [l4, l5, l6, l7, show ((x1.toNat : Int) / 16 * 16 + (x1.toNat : Int) % 16) = (x1.toNat : Int) by omega]
        simp only [u8_byte]
        have e3 : u8 0 = x3 := by rw [← u8_byte x3, h3]; rfl
        rw [e3]
    · exact .inl (if_neg h3)
  | [] => exact .inl rfl
  | [_] => exact .inl rfl
  | [_, _] => exact .inl rfl
  | [_, _, _] => exact .inl rfl
  | [_, _, _, _] => exact .inl rfl
  | [_, _, _, _, _] => exact .inl rfl
  | [_, _, _, _, _, _] => exact .inl rfl
  | [_, _, _, _, _, _, _] => exact .inl rfl
  | _ :: _ :: _ :: _ :: _ :: _ :: _ :: _ :: _ :: _ => exact .inl rfl

end Go.Proofs.YtnlkeghgmmoioaaDoor
