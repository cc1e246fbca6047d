/-
  The law TokenNumbers (layer 9): digits, and its walk.
-/
import Derived.Test.YtekangigfhhkoaaMorA
import Derived.Laws.IdiomStrings
namespace Go.Proofs.Ytekangigfhhkoaa
open Go.ChangeShapes Go.WideShapes Go.ChangeAt Go.RowKit Go.Shelf

/-- The byte of a digit. -/
def dg (d : Nat) : UInt8 := UInt8.ofNat (48 + d)
theorem dg_nat {d : Nat} (h : d < 10) : (dg d).toNat = 48 + d := by
  unfold dg
  rw [UInt8.toNat_ofNat', Nat.mod_eq_of_lt (by omega)]
theorem dg_digit {d : Nat} (h : d < 10) : digit (dg d) = true := by
  simp [digit, dg_nat h]; omega
/-- The digits of a number: of 0, none. -/
def digsF : Nat → Nat → List UInt8
  | 0, _ => []
  | f + 1, n => if n = 0 then [] else digsF f (n / 10) ++ [dg (n % 10)]
def digs (n : Nat) : List UInt8 := digsF (n + 1) n
theorem digsF_any : ∀ (f g n : Nat), n < f → n < g → digsF f n = digsF g n
  | 0, _, _, h, _ => absurd h (Nat.not_lt_zero _)
  | _ + 1, 0, _, _, h => absurd h (Nat.not_lt_zero _)
  | f + 1, g + 1, n, h1, h2 => by
    unfold digsF
    by_cases h : n = 0
    · rw [if_pos h, if_pos h]
    · rw [if_neg h, if_neg h, digsF_any f g (n / 10) (by omega) (by omega)]
theorem digs_zero : digs 0 = [] := rfl
theorem digs_step {n : Nat} (h : n ≠ 0) : digs n = digs (n / 10) ++ [dg (n % 10)] := by
  show digsF (n + 1) n = _
  rw [digsF, if_neg h]
  rw [digsF_any n (n / 10 + 1) (n / 10) (by omega) (by omega)]; rfl
theorem digs_all : ∀ (n : Nat), ∀ c ∈ digs n, digit c = true := by
  intro n
  induction n using Nat.strongRecOn with
  | ind n ih =>
    intro c hc
    by_cases h : n = 0
    · subst h; rw [digs_zero] at hc; cases hc
    · rw [digs_step h] at hc
      rcases List.mem_append.1 hc with hc | hc
      · exact ih (n / 10) (by omega) c hc
      · simp at hc; subst hc; exact dg_digit (Nat.mod_lt _ (by decide))
theorem digs_head : ∀ (n : Nat), n ≠ 0 → ∃ c t, digs n = c :: t ∧ c.toNat ≠ 48 := by
  intro n
  induction n using Nat.strongRecOn with
  | ind n ih =>
    intro h
    rw [digs_step h]
    by_cases h2 : n / 10 = 0
    · rw [h2, digs_zero]
      refine ⟨_, [], rfl, ?_⟩
      rw [dg_nat (Nat.mod_lt _ (by decide))]; omega
    · obtain ⟨c, t, e, hc⟩ := ih (n / 10) (by omega) h2
      exact ⟨c, t ++ [dg (n % 10)], by rw [e]; rfl, hc⟩
theorem digs_len (n : Nat) : ∀ k, n < 10 ^ k → (digs n).length ≤ k := by
  intro k
  induction k generalizing n with
  | zero => intro h; have : n = 0 := by simpa using h
            subst this; simp [digs_zero]
  | succ k ih =>
    intro h
    by_cases h0 : n = 0
    · subst h0; simp [digs_zero]
    · rw [digs_step h0, List.length_append]
      have := ih (n / 10) (by rw [Nat.pow_succ] at h; omega)
      simp; omega
theorem numTo_app : ∀ (x y : List UInt8) (a : Nat), numTo a (x ++ y) = (numTo a x).bind fun m => numTo m y
  | [], y, a => rfl
  | c :: x, y, a => by
    rw [List.cons_append, numTo, numTo]
    by_cases h : digit c = true
    · rw [if_pos h, if_pos h]
      by_cases h2 : (9223372036854775807 - (c.toNat - 48)) / 10 < a
      · rw [if_pos h2, if_pos h2]; rfl
      · rw [if_neg h2, if_neg h2]; exact numTo_app x y _
    · rw [if_neg h, if_neg h]; rfl
theorem numTo_digs : ∀ (n : Nat), n ≤ 9223372036854775807 → numTo 0 (digs n) = some n := by
  intro n
  induction n using Nat.strongRecOn with
  | ind n ih =>
    intro hn
    by_cases h : n = 0
    · subst h; rfl
    · rw [digs_step h, numTo_app, ih (n / 10) (by omega) (by omega)]
      show numTo (n / 10) [dg (n % 10)] = _
      have hd : n % 10 < 10 := Nat.mod_lt _ (by decide)
      rw [numTo, if_pos (dg_digit hd), dg_nat hd, if_neg (by omega)]
      show some (10 * (n / 10) + (48 + n % 10 - 48)) = _
      congr 1; omega
/-- The text of a number. -/
def numT (n : Nat) : List UInt8 := if n = 0 then [48] else digs n
theorem numT_ne (n : Nat) : ∃ c t, numT n = c :: t ∧ digit c = true := by
  unfold numT
  by_cases h : n = 0
  · rw [if_pos h]; exact ⟨48, [], rfl, by decide⟩
  · rw [if_neg h]
    obtain ⟨c, t, e, _⟩ := digs_head n h
    exact ⟨c, t, e, digs_all n c (by rw [e]; simp)⟩
theorem numT_all (n : Nat) : ∀ c ∈ numT n, digit c = true := by
  unfold numT
  by_cases h : n = 0
  · rw [if_pos h]; intro c hc; simp at hc; subst hc; decide
  · rw [if_neg h]; exact digs_all n
theorem num_numT (n : Nat) (hn : n ≤ 9223372036854775807) : num (numT n) = some n := by
  unfold numT
  by_cases h : n = 0
  · rw [if_pos h, h]; rfl
  · rw [if_neg h]
    obtain ⟨c, t, e, hc⟩ := digs_head n h
    have hl : lead0 (digs n) = false := by
      rw [e]
      cases t with
      | nil => rfl
      | cons b u => simp [lead0, hc]
    unfold num
    rw [if_neg (by rw [e]; simp), hl]
    exact numTo_digs n hn
theorem num_lead (n : Nat) : num (48 :: numT n) = none := by
  obtain ⟨c, t, e, _⟩ := numT_ne n
  rw [e]; rfl
theorem cnt_full (p : UInt8 → Bool) : ∀ (l : List UInt8), (∀ c ∈ l, p c = true) → cnt p l = l.length
  | [], _ => rfl
  | c :: t, h => by rw [cnt, if_pos (h c (by simp)), cnt_full p t (fun d hd => h d (by simp [hd]))]; rfl
theorem digit_not {c : UInt8} (h : digit c = true) : letter c = false ∧ blank c = false ∧ c.toNat ≠ 47 := by
  have := digit_fits c h
  refine ⟨?_, ?_, by omega⟩
  · simp [letter]; omega
  · simp [blank]; omega
theorem betw_digit {c : UInt8} {t : List UInt8} (h : digit c = true) : betw (c :: t) = 0 := by
  obtain ⟨_, h2, h3⟩ := digit_not h
  refine betw_none h2 ?_
  cases t with
  | nil => rfl
  | cons b u => simp [sl, h3]
theorem lexS_numT (n : Nat) (hn : n ≤ 9223372036854775807) : lexS (numT n) = ([⟨2, numT n, 0⟩], none) := by
  obtain ⟨c, t, e, hc⟩ := numT_ne n
  have hcnt := cnt_full digit (numT n) (numT_all n)
  have hsz : numSize (numT n) = (numT n).length := by
    unfold numSize
    rw [hcnt, List.take_length, num_numT n hn, List.drop_length]; rfl
  have hf : first (numT n) = (2, (numT n).length) := by
    rw [← hsz, e]
    unfold first
    simp only [(digit_not hc).1, hc, if_true]
    rfl
  have hl : (numT n).length ≠ 0 := by rw [e]; simp
  rw [lexS_rest, e, restL_here 0 (digit_not hc).2.1 (by
    cases t with
    | nil => rfl
    | cons b u => simp [sl, (digit_not hc).2.2]), ← e]
  rw [toks_rest 0 (by rw [hf]; exact hl), hf]
  simp only [List.drop_length, List.take_length, restL_nil]
theorem lexS_numTa (n : Nat) : lexS (numT n ++ [97]) = ([], some 0) := by
  obtain ⟨c, t, e, hc⟩ := numT_ne n
  have hcnt : cnt digit (numT n ++ [97]) = (numT n).length := by rw [cnt_brk (by decide), cnt_full digit (numT n) (numT_all n)]
  have hsz : numSize (numT n ++ [97]) = 0 := by
    unfold numSize
    rw [hcnt, List.drop_left, show headLetter [97] = true by rfl]
    split <;> rfl
  have hf : (first (numT n ++ [97])).2 = 0 := by
    rw [← hsz, e]
    show (if letter c = true then (1, cnt ofName (c :: t ++ [97])) else if digit c = true then (2, numSize (c :: t ++ [97])) else (3, signSize (c :: t ++ [97]))).2 = _
    rw [(digit_not hc).1, hc]; rfl
  rw [lexS_rest, e, List.cons_append, restL_here 0 (digit_not hc).2.1 (by
    cases t with
    | nil => simp [sl]
    | cons b u => simp [sl, (digit_not hc).2.2])]
  refine toks_bad 0 (by simp) ?_
  have := hf
  rw [e] at this
  exact this

set_option maxRecDepth 100000 in
set_option maxHeartbeats 2000000 in
theorem numbers_walk (n : Int) (w : World) (hw : (Lit.int .i64 n).wf = true) : Calls Try.prog 8 #[.int .i64 n] w fun e w' => e = .returned (.bool true) ∧ Below w.heap.size w w' := by
  have hmax : n ≤ 9223372036854775807 := by
    simp [Lit.wf, IntKind.min, IntKind.max, IntKind.signed, IntKind.bits] at hw
    omega
  go_enter Try.func8, Try.ntmps8
  go_wp2_with fail
  refine (small_is w).mono ?_
  rintro e w1 ⟨rfl, hb1⟩
  have HB1 := hide hb1
  clear hb1
  by_cases hneg : n < 0
  · have e1 : (n < 0) = True := eq_true hneg
    go_wp2_with fail
    go_ret
    exact ⟨rfl, HB1.out⟩
  have e1 : (n < 0) = False := eq_false hneg
  obtain ⟨m, rfl⟩ : ∃ m : Nat, n = (m : Int) := ⟨n.toNat, by omega⟩
  have hm : m ≤ 9223372036854775807 := by omega
  clear hneg hmax hw
  go_wp2_with fail
  go_loopw [4, 5] (fun st kv wr => ∃ (k : Nat) (l : List UInt8), st = .string (bs l) ∧ kv = .int .i64 (k : Int) ∧ k ≤ 9223372036854775807 ∧ digs k ++ l = digs m ∧ Below w.heap.size w wr) (fun _ kv _ => (RowKit.intOf kv).toNat)
  case atStart => exact ⟨m, [], rfl, rfl, hm, by simp, HB1.out⟩
  case round =>
    obtain ⟨k, l, rfl, rfl, hk, hdl, hbr⟩ := hrel
    by_cases hk0 : 0 < k
    · have e2 : ((0 : Int) < (k : Int)) = True := eq_true (by omega)
      have hll : l.length ≤ 19 := by
        have h1 := congrArg List.length hdl
        have h2 := digs_len m 19 (by omega)
        rw [List.length_append] at h1
        omega
      have HD : Hid (digs (k / 10) ++ dg (k % 10) :: l = digs m) := by rw [Hid, ← hdl, digs_step (by omega : k ≠ 0)]; simp
      have hc : (dg (k % 10)).toNat = 48 + k % 10 := dg_nat (Nat.mod_lt _ (by decide))
      have hbn := bel_new wr (.cells #[.int .u8 (48 + (k : Int) % 10)] 5)
      have hconv : (convert 37 9 (.slice (some ⟨wr.heap.size, 0, none⟩) 1 1)).run Try.prog (wr.alloc (.cells #[.int .u8 (48 + (k : Int) % 10)] 5)) = .ok (.string (bs [dg (k % 10)])) (wr.alloc (.cells #[.int .u8 (48 + (k : Int) % 10)] 5)) := by
        refine run_convert_bytes_back _ 37 9 5 ⟨wr.heap.size, 0, none⟩ 1 [dg (k % 10)] Try.underlying37 Try.underlying5 Try.underlying9 (fun j hj => ?_)
        have hj0 : j = 0 := by simpa using hj
        subst hj0
        rw [Addr.add_mid, cell_of (World.alloc_heap_new wr _)]
        simp only [List.getElem_cons_zero, hc]
        simp
      have hsz1 : (bs [dg (k % 10)]).size = 1 := rfl
      have hsz2 := bs_size l
      have hb0 : ¬ 9223372036854775807 < (bs [dg (k % 10)]).size + (bs l).size := by rw [hsz1, hsz2]; omega
      have hb1 : ¬ 9223372036854775807 < 1 + l.length := by omega
      have HBR := hide (bel_two hbr hbn)
      have HBR2 : Hid (Below w.heap.size w (wr.alloc (.cells #[.int .u8 (48 + (k : Int) % 10)] 5))) := hbr.trans (hbn.mono hbr.size)
      clear hbr hbn hdl hc
      go_wp2
      go_roundw
      case rel => exact ⟨k / 10, dg (k % 10) :: l, by rw [show dg (k % 10) :: l = [dg (k % 10)] ++ l from rfl, bs_app], by rw [show ((k / 10 : Nat) : Int) = (k : Int) / 10 by omega], by omega, HD.out, HBR2.out⟩
      case measure => simp [RowKit.intOf]; omega
    · have hk1 : k = 0 := by omega
      subst hk1
      rw [digs_zero, List.nil_append] at hdl
      subst hdl
      have HBR := hide hbr
      clear hbr
      by_cases hm0 : m = 0
      · subst hm0
        have HNUM : Hid (num [48] = some 0) := num_numT 0 (by omega)
        have HLX : Hid (lexS [48] = ([⟨2, [48], 0⟩], none)) := lexS_numT 0 (by omega)
        have HNL : Hid (num (48 :: [48]) = none) := num_lead 0
        have HLA : Hid (lexS ([48] ++ [97]) = ([], some 0)) := lexS_numTa 0
        have hlen : ([48] : List UInt8).length ≤ 20 := by decide
        have H1 := number_s (bs [48]) (by rw [bs_size]; omega) wr
        rw [show num (bs [48]).data.toList = some 0 from HNUM.out, numV_some] at H1
        have hsz := bs_size [48]
        have hcat : ((⟨#[48]⟩ : ByteArray) ++ bs [48]).data.toList = 48 :: [48] := by simp [ByteArray.data_append, bs]
        have hcat2 : (bs [48] ++ (⟨#[97]⟩ : ByteArray)).data.toList = [48] ++ [97] := by simp [ByteArray.data_append, bs]
        have hcz : ((⟨#[48]⟩ : ByteArray) ++ bs [48]).size = ([48] : List UInt8).length + 1 := by rw [← s_size, hcat]; rfl
        have hcz2 : (bs [48] ++ (⟨#[97]⟩ : ByteArray)).size = ([48] : List UInt8).length + 1 := by rw [← s_size, hcat2]; simp
        have hb0 : ¬ 9223372036854775807 < (⟨#[48]⟩ : ByteArray).size + (bs [48]).size := by rw [hsz]; show ¬ _ < 1 + _; omega
        have hb1 : ¬ 9223372036854775807 < (bs [48]).size + (⟨#[97]⟩ : ByteArray).size := by rw [hsz]; show ¬ _ < _ + 1; omega
        have hb2 : ¬ 9223372036854775807 < 1 + ([48] : List UInt8).length := by omega
        have hb3 : ¬ 9223372036854775807 < ([48] : List UInt8).length + 1 := by omega
        have HC := hide (And.intro hcat (And.intro hcat2 (And.intro hcz hcz2)))
        clear hcat hcat2 hcz hcz2
        go_wp2_with fail
        refine H1.mono ?_
        rintro e w' ⟨rfl, rfl⟩
        clear H1
        go_wp2_with fail
        refine (lex_s (bs [48]) (by rw [hsz]; omega) w').mono ?_
        rintro e w2 ⟨r, rfl, ha, hb2'⟩
        have ha' : LexAns [48] w'.heap.size r w2 := ha
        obtain ⟨v, hve, hown⟩ := ha'.is_good HLX.out
        have hr := TokRow.of_owns hown
        obtain ⟨av, cap, hve2, -⟩ := owns_shape hown
        subst hve2
        subst hve
        obtain ⟨b1, o1, a1, r1⟩ := row_at hr rfl
        obtain ⟨rfl, hbl⟩ := a1 (by simp)
        obtain ⟨y0, y1, y2⟩ := r1 0 (by simp)
        have HB2 := hide (bel_two HBR.out hb2')
        have HY := hide (And.intro y0 (And.intro y1 y2))
        have hbw := hb2'.size
        clear ha ha' hown hr a1 r1 y0 y1 y2 hb2' HBR HLX
        have H2 := number_s ((⟨#[48]⟩ : ByteArray) ++ bs [48]) (by rw [HC.out.2.2.1]; omega) w2
        rw [HC.out.1, HNL.out, numV_none] at H2
        go_wp2_with fail
        refine H2.mono ?_
        rintro e w3 ⟨rfl, rfl⟩
        clear H2
        go_wp2_with fail
        refine (lex_s (bs [48] ++ (⟨#[97]⟩ : ByteArray)) (by rw [HC.out.2.2.2]; omega) w3).mono ?_
        rintro e w4 ⟨r, rfl, ha, hb4⟩
        rw [HC.out.2.1] at ha
        obtain rfl := ha.is_bad HLA.out
        have HB4 := hide (bel_two HB2.out hb4)
        have y0 := (hb4.cell (p := ⟨b1, o1 + 0 * 3, none⟩) hbl).trans HY.out.1
        have y1 := (hb4.cell (p := ⟨b1, o1 + 0 * 3 + 1, none⟩) hbl).trans HY.out.2.1
        have y2 := (hb4.cell (p := ⟨b1, o1 + 0 * 3 + 2, none⟩) hbl).trans HY.out.2.2
        have y0 : w4.cell? ⟨b1, o1, none⟩ = some (.int .i64 2) := y0
        have y1 : w4.cell? ⟨b1, o1 + 1, none⟩ = some (.string (bs [48])) := y1
        have y2 : w4.cell? ⟨b1, o1 + 2, none⟩ = some (.int .i64 0) := y2
        have f1 : (bs [48]).toList = [48] := bs_toList _
        clear ha hb4 HY HB2 hbw
        go_wp2
        go_ret
        exact ⟨rfl, HB4.out⟩
      · have hTm : digs m = numT m := by unfold numT; rw [if_neg hm0]
        rw [hTm]
        have HNUM := hide (num_numT m hm)
        have HLX := hide (lexS_numT m hm)
        have HNL := hide (num_lead m)
        have HLA := hide (lexS_numTa m)
        have hlen : (numT m).length ≤ 20 := by rw [← hTm]; have := digs_len m 19 (by omega); omega
        have e2 : ((m : Int) = 0) = False := eq_false (by omega)
        have e3 : ((m : Int) == 0) = false := beq_eq_false_iff_ne.2 (by omega)
        clear hTm
        generalize numT m = D at *
        have H1 := number_s (bs D) (by rw [bs_size]; omega) wr
        rw [show num (bs D).data.toList = some m from HNUM.out, numV_some] at H1
        have hsz := bs_size D
        have hcat : ((⟨#[48]⟩ : ByteArray) ++ bs D).data.toList = 48 :: D := by simp [ByteArray.data_append, bs]
        have hcat2 : (bs D ++ (⟨#[97]⟩ : ByteArray)).data.toList = D ++ [97] := by simp [ByteArray.data_append, bs]
        have hcz : ((⟨#[48]⟩ : ByteArray) ++ bs D).size = (D : List UInt8).length + 1 := by rw [← s_size, hcat]; rfl
        have hcz2 : (bs D ++ (⟨#[97]⟩ : ByteArray)).size = (D : List UInt8).length + 1 := by rw [← s_size, hcat2]; simp
        have hb0 : ¬ 9223372036854775807 < (⟨#[48]⟩ : ByteArray).size + (bs D).size := by rw [hsz]; show ¬ _ < 1 + _; omega
        have hb1 : ¬ 9223372036854775807 < (bs D).size + (⟨#[97]⟩ : ByteArray).size := by rw [hsz]; show ¬ _ < _ + 1; omega
        have hb2 : ¬ 9223372036854775807 < 1 + (D : List UInt8).length := by omega
        have hb3 : ¬ 9223372036854775807 < (D : List UInt8).length + 1 := by omega
        have HC := hide (And.intro hcat (And.intro hcat2 (And.intro hcz hcz2)))
        clear hcat hcat2 hcz hcz2
        go_wp2_with fail
        refine H1.mono ?_
        rintro e w' ⟨rfl, rfl⟩
        clear H1
        go_wp2_with fail
        refine (lex_s (bs D) (by rw [hsz]; omega) w').mono ?_
        rintro e w2 ⟨r, rfl, ha, hb2'⟩
        have ha' : LexAns D w'.heap.size r w2 := ha
        obtain ⟨v, hve, hown⟩ := ha'.is_good HLX.out
        have hr := TokRow.of_owns hown
        obtain ⟨av, cap, hve2, -⟩ := owns_shape hown
        subst hve2
        subst hve
        obtain ⟨b1, o1, a1, r1⟩ := row_at hr rfl
        obtain ⟨rfl, hbl⟩ := a1 (by simp)
        obtain ⟨y0, y1, y2⟩ := r1 0 (by simp)
        have HB2 := hide (bel_two HBR.out hb2')
        have HY := hide (And.intro y0 (And.intro y1 y2))
        have hbw := hb2'.size
        clear ha ha' hown hr a1 r1 y0 y1 y2 hb2' HBR HLX
        have H2 := number_s ((⟨#[48]⟩ : ByteArray) ++ bs D) (by rw [HC.out.2.2.1]; omega) w2
        rw [HC.out.1, HNL.out, numV_none] at H2
        go_wp2_with fail
        refine H2.mono ?_
        rintro e w3 ⟨rfl, rfl⟩
        clear H2
        go_wp2_with fail
        refine (lex_s (bs D ++ (⟨#[97]⟩ : ByteArray)) (by rw [HC.out.2.2.2]; omega) w3).mono ?_
        rintro e w4 ⟨r, rfl, ha, hb4⟩
        rw [HC.out.2.1] at ha
        obtain rfl := ha.is_bad HLA.out
        have HB4 := hide (bel_two HB2.out hb4)
        have y0 := (hb4.cell (p := ⟨b1, o1 + 0 * 3, none⟩) hbl).trans HY.out.1
        have y1 := (hb4.cell (p := ⟨b1, o1 + 0 * 3 + 1, none⟩) hbl).trans HY.out.2.1
        have y2 := (hb4.cell (p := ⟨b1, o1 + 0 * 3 + 2, none⟩) hbl).trans HY.out.2.2
        have y0 : w4.cell? ⟨b1, o1, none⟩ = some (.int .i64 2) := y0
        have y1 : w4.cell? ⟨b1, o1 + 1, none⟩ = some (.string (bs D)) := y1
        have y2 : w4.cell? ⟨b1, o1 + 2, none⟩ = some (.int .i64 0) := y2
        have f1 : ((bs D).toList == (bs D).toList) = true := by simp
        clear ha hb4 HY HB2 hbw
        go_wp2
        go_ret
        exact ⟨rfl, HB4.out⟩

end Go.Proofs.Ytekangigfhhkoaa
