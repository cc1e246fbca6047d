/-
  A parser of tokens (layer 10), in plain words: what stands where, and how deep. No program is named.
  A parser of tokens (layer 10): what is parsed without an error takes a token at least. No program is named.
  Two parsers side by side (layer 10): what is parsed hangs on the tokens that are looked at alone. No program is named.
  Trees (layer 10), in plain words: how great they are, which are alike, whether they are few; their texts. No program is named.
  Programs, one behind the other (layer 10): where an error is, and what is parsed. No program is named.
  How great what is parsed is (layer 10): no greater than its tokens are many. No program is named.
  The texts of trees (layer 10), in plain words; what a writer makes of them. No program is named.
-/
import Derived.Test.YtgndnodahlabiaaByt

/- A parser of tokens (layer 10), in plain words: what stands where, and how deep. No program is named. -/
namespace Go.Proofs.Ytgndnodahlabiaa

/-- A tree: kind, text, place, kids. -/
inductive Nd where
  | mk (k : Int) (t : List UInt8) (a : Int) (ks : List Nd)
def Nd.k : Nd → Int | .mk k _ _ _ => k
def Nd.t : Nd → List UInt8 | .mk _ t _ _ => t
def Nd.a : Nd → Int | .mk _ _ a _ => a
def Nd.ks : Nd → List Nd | .mk _ _ _ ks => ks
abbrev nd0 : Nd := .mk 0 [] 0 []
abbrev tk0 : Tok := ⟨0, [], 0⟩

def wordsL : List (List UInt8) := [[102, 117, 110, 99], [118, 97, 114], [105, 102], [101, 108, 115, 101], [102, 111, 114], [114, 101, 116, 117, 114, 110], [112, 114, 105, 110, 116], [110, 101, 119], [114, 101, 97, 100], [105, 110, 116]]
def wordB (s : List UInt8) : Bool := decide (s ∈ wordsL)

/-- Where a parser stands, and what went wrong (0: nothing). -/
structure St where
  pl : Nat
  er : Nat
def nextT (ts : List Tok) (s : St) : Tok := if s.er ≠ 0 ∨ s.pl = ts.length then tk0 else ts.getD s.pl tk0
def kindOf (q : List UInt8) : Nat := if wordB q = true then 1 else 3
def isW (ts : List Tok) (q : List UInt8) (s : St) : Bool := decide ((nextT ts s).k = kindOf q) && decide ((nextT ts s).t = q)
def isNm (ts : List Tok) (s : St) : Bool := decide ((nextT ts s).k = 1) && !wordB (nextT ts s).t
def isNr (ts : List Tok) (s : St) : Bool := decide ((nextT ts s).k = 2)
def adv (s : St) : St := ⟨s.pl + 1, s.er⟩
def failS (e : Nat) (s : St) : St := if s.er = 0 then ⟨s.pl, e⟩ else s
def takeS (ts : List Tok) (q : List UInt8) (s : St) : St := if isW ts q s = true then adv s else s
def wantS (ts : List Tok) (q : List UInt8) (s : St) : St := if isW ts q s = true then adv s else failS 2 s
def nameS (ts : List Tok) (s : St) : List UInt8 × St := if isNm ts s = true then ((nextT ts s).t, adv s) else ([], failS 2 s)
def numS (ts : List Tok) (s : St) : List UInt8 × St := if isNr ts s = true then ((nextT ts s).t, adv s) else ([], failS 2 s)
abbrev Pa := St → Nd × St
abbrev PaL := St → List Nd × St

/-- More of them, with "," between. -/
def moreS (ts : List Tok) (w : Pa) : Nat → List Nd → St → List Nd × St
  | 0, l, s => (l, s)
  | n + 1, l, s => if isW ts [44] s = true then moreS ts w n (l ++ [(w (adv s)).1]) (w (adv s)).2 else (l, s)
def left (ts : List Tok) (s : St) : Nat := ts.length - s.pl
def someS (ts : List Tok) (w : Pa) (q : List UInt8) : PaL := fun s =>
  let r := moreS ts w (left ts (w s).2) [(w s).1] (w s).2
  (r.1, wantS ts q r.2)
def listS (ts : List Tok) (w : Pa) (q : List UInt8) : PaL := fun s => if isW ts q s = true then ([], adv s) else someS ts w q s

/-- What stands with signs between, from the left. -/
def anyW (ts : List Tok) (sg : List (List UInt8)) (s : St) : Bool := sg.any fun q => isW ts q s
def loopJ (ts : List Tok) (w : Pa) (sg : List (List UInt8)) : Nat → Nd → St → Nd × St
  | 0, x, s => (x, s)
  | n + 1, x, s => if anyW ts sg s = true then loopJ ts w sg n (.mk 19 (nextT ts s).t x.a [x, (w (adv s)).1]) (w (adv s)).2 else (x, s)
def joinS (ts : List Tok) (w : Pa) (sg : List (List UInt8)) : Pa := fun s => loopJ ts w sg (left ts (w s).2) (w s).1 (w s).2

/-- What is one deeper: types, expressions, operands, statements. -/
structure Lv where
  t : Pa
  e : Pa
  o : Pa
  s : Pa
def tooDeep : Pa := fun s => (nd0, failS 5 s)

def typF (ts : List Tok) (v : Lv) : Pa := fun s =>
  let a := (nextT ts s).a
  if isW ts [105, 110, 116] s = true then (.mk 5 [] a [], adv s)
  else if isW ts [42] s = true then (.mk 6 [] a [(v.t (adv s)).1], (v.t (adv s)).2)
  else if isW ts [91] s = true then
    let n := numS ts (adv s)
    let r := v.t (wantS ts [93] n.2)
    (.mk 7 n.1 a [r.1], r.2)
  else if isW ts [40] s = true then
    let r := someS ts v.t [41] (adv s)
    (.mk 8 [] a r.1, r.2)
  else (.mk 5 [] a [], failS 2 s)
def primF (ts : List Tok) (v : Lv) : Pa := fun s =>
  let a := (nextT ts s).a
  if isNr ts s = true then (.mk 17 (nextT ts s).t a [], adv s)
  else if isNm ts s = true then
    if isW ts [40] (adv s) = true then
      let r := listS ts v.e [41] (adv (adv s))
      (.mk 25 (nextT ts s).t a r.1, r.2)
    else (.mk 18 (nextT ts s).t a [], adv s)
  else if isW ts [110, 101, 119] s = true then
    let r := v.t (wantS ts [40] (adv s))
    (.mk 26 [] a [r.1], wantS ts [41] r.2)
  else if isW ts [114, 101, 97, 100] s = true then (.mk 27 [] a [], adv s)
  else if isW ts [40] s = true then
    let r := v.e (adv s)
    (r.1, wantS ts [41] r.2)
  else (.mk 27 [] a [], failS 2 s)
def loopP (ts : List Tok) (v : Lv) : Nat → Nd → St → Nd × St
  | 0, x, s => (x, s)
  | n + 1, x, s =>
    if isW ts [91] s = true then loopP ts v n (.mk 23 [] x.a [x, (v.e (adv s)).1]) (wantS ts [93] (v.e (adv s)).2)
    else if isW ts [46] s = true then loopP ts v n (.mk 24 (numS ts (adv s)).1 x.a [x]) (numS ts (adv s)).2
    else (x, s)
def partF (ts : List Tok) (v : Lv) : Pa := fun s => loopP ts v (left ts (primF ts v s).2) (primF ts v s).1 (primF ts v s).2
def operF (ts : List Tok) (v : Lv) : Pa := fun s =>
  let a := (nextT ts s).a
  if isW ts [45] s = true then (.mk 20 [] a [(v.o (adv s)).1], (v.o (adv s)).2)
  else if isW ts [42] s = true then (.mk 21 [] a [(v.o (adv s)).1], (v.o (adv s)).2)
  else if isW ts [38] s = true then (.mk 22 [] a [(v.o (adv s)).1], (v.o (adv s)).2)
  else partF ts v s
def prodF (ts : List Tok) (v : Lv) : Pa := joinS ts (operF ts v) [[42], [47], [37], [38], [60, 60], [62, 62]]
def sumF (ts : List Tok) (v : Lv) : Pa := joinS ts (prodF ts v) [[43], [45], [94], [124]]
def exprF (ts : List Tok) (v : Lv) : Pa := joinS ts (sumF ts v) [[61, 61], [33, 61], [60], [60, 61]]
/-- Statements, up to "}". -/
def loopB (ts : List Tok) (v : Lv) : Nat → List Nd → St → List Nd × St
  | 0, l, s => (l, s)
  | n + 1, l, s => if s.er = 0 then (if isW ts [125] s = true then (l, adv s) else loopB ts v n (l ++ [(v.s s).1]) (v.s s).2) else (l, s)
def blockF (ts : List Tok) (v : Lv) : Pa := fun s =>
  let r := loopB ts v (left ts (wantS ts [123] s) + 2) [] (wantS ts [123] s)
  (.mk 9 [] (nextT ts s).a r.1, r.2)
def lineF (ts : List Tok) (v : Lv) : Pa := fun s =>
  let a := (nextT ts s).a
  if isW ts [118, 97, 114] s = true then
    let n := nameS ts (adv s)
    (.mk 10 n.1 a [(v.t n.2).1], (v.t n.2).2)
  else if isW ts [114, 101, 116, 117, 114, 110] s = true then
    if isW ts [59] (adv s) = true then (.mk 14 [] a [], adv s)
    else (.mk 14 [] a [(v.e (adv s)).1], (v.e (adv s)).2)
  else if isW ts [112, 114, 105, 110, 116] s = true then (.mk 15 [] a [(v.e (adv s)).1], (v.e (adv s)).2)
  else if (v.e s).1.k = 25 ∧ isW ts [61] (v.e s).2 = false then (.mk 16 [] a [(v.e s).1], (v.e s).2)
  else
    let r := v.e (wantS ts [61] (v.e s).2)
    (.mk 11 [] a [(v.e s).1, r.1], r.2)
def stmtF (ts : List Tok) (v : Lv) : Pa := fun s =>
  let a := (nextT ts s).a
  if isW ts [105, 102] s = true then
    let c := v.e (adv s)
    let b := blockF ts v c.2
    if isW ts [101, 108, 115, 101] b.2 = true then
      let d := blockF ts v (adv b.2)
      (.mk 12 [] a [c.1, b.1, d.1], d.2)
    else (.mk 12 [] a [c.1, b.1], b.2)
  else if isW ts [102, 111, 114] s = true then
    let c := v.e (adv s)
    let b := blockF ts v c.2
    (.mk 13 [] a [c.1, b.1], b.2)
  else ((lineF ts v s).1, wantS ts [59] (lineF ts v s).2)
/-- What has so many depths to go. -/
def lv (ts : List Tok) : Nat → Lv
  | 0 => ⟨tooDeep, tooDeep, tooDeep, tooDeep⟩
  | r + 1 => ⟨typF ts (lv ts r), exprF ts (lv ts r), operF ts (lv ts r), stmtF ts (lv ts r)⟩
def paramF (ts : List Tok) (v : Lv) : Pa := fun s =>
  let n := nameS ts s
  (.mk 3 n.1 (nextT ts s).a [(v.t n.2).1], (v.t n.2).2)
def resultF (ts : List Tok) (v : Lv) : Pa := fun s => if isW ts [123] s = true then (.mk 4 [] (nextT ts s).a [], s) else v.t s
def funcF (ts : List Tok) (v : Lv) : Pa := fun s =>
  let n := nameS ts (wantS ts [102, 117, 110, 99] s)
  let ps := listS ts (paramF ts v) [41] (wantS ts [40] n.2)
  let r := resultF ts v ps.2
  let b := blockF ts v r.2
  (.mk 2 n.1 (nextT ts s).a (ps.1 ++ [r.1, b.1]), b.2)
def loopG (ts : List Tok) (v : Lv) : Nat → List Nd → St → List Nd × St
  | 0, l, s => (l, s)
  | n + 1, l, s => if s.er = 0 ∧ s.pl < ts.length then loopG ts v n (l ++ [(funcF ts v s).1]) (funcF ts v s).2 else (l, s)
def progS (ts : List Tok) : List Nd × St := loopG ts (lv ts 100) (ts.length + 1) [] ⟨0, 0⟩
def parseS (ts : List Tok) : Nd × Nat × Nat := if (progS ts).2.er = 0 then (.mk 1 [] (nextT ts ⟨0, 0⟩).a (progS ts).1, (progS ts).2.pl, 0) else (nd0, (progS ts).2.pl, (progS ts).2.er)

/- What each of them keeps: it goes on, not beyond the end; behind an error it stands still. -/
structure Good (ts : List Tok) (s s' : St) : Prop where
  le : s.pl ≤ s'.pl
  bd : s.pl ≤ ts.length → s'.pl ≤ ts.length
  er : s.er ≠ 0 → s' = s
  on : s'.er = 0 → s.er = 0
theorem Good.refl (ts : List Tok) (s : St) : Good ts s s := ⟨Nat.le_refl _, id, fun _ => rfl, id⟩
theorem Good.trans {ts : List Tok} {a b c : St} (h : Good ts a b) (k : Good ts b c) : Good ts a c :=
  ⟨Nat.le_trans h.le k.le, fun x => k.bd (h.bd x), fun x => by have e := h.er x; subst e; exact k.er x, fun x => h.on (k.on x)⟩
theorem nextT_err {ts : List Tok} {s : St} (h : s.er ≠ 0) : nextT ts s = tk0 := by unfold nextT; rw [if_pos (.inl h)]
theorem kindOf_pos (q : List UInt8) : kindOf q ≠ 0 := by unfold kindOf; split <;> decide
theorem isW_at {ts : List Tok} {q : List UInt8} {s : St} (h : isW ts q s = true) : s.er = 0 ∧ s.pl ≠ ts.length := by
  unfold isW nextT at h
  by_cases hc : s.er ≠ 0 ∨ s.pl = ts.length
  · rw [if_pos hc] at h
    simp only [Bool.and_eq_true, decide_eq_true_eq] at h
    exact absurd h.1.symm (kindOf_pos q)
  · exact ⟨Classical.byContradiction fun e => hc (.inl e), fun e => hc (.inr e)⟩
theorem isNm_at {ts : List Tok} {s : St} (h : isNm ts s = true) : s.er = 0 ∧ s.pl ≠ ts.length := by
  unfold isNm nextT at h
  by_cases hc : s.er ≠ 0 ∨ s.pl = ts.length
  · rw [if_pos hc] at h; simp at h
  · exact ⟨Classical.byContradiction fun e => hc (.inl e), fun e => hc (.inr e)⟩
theorem isNr_at {ts : List Tok} {s : St} (h : isNr ts s = true) : s.er = 0 ∧ s.pl ≠ ts.length := by
  unfold isNr nextT at h
  by_cases hc : s.er ≠ 0 ∨ s.pl = ts.length
  · rw [if_pos hc] at h; simp at h
  · exact ⟨Classical.byContradiction fun e => hc (.inl e), fun e => hc (.inr e)⟩
theorem good_adv {ts : List Tok} {s : St} (h : s.er = 0 ∧ s.pl ≠ ts.length) : Good ts s (adv s) :=
  ⟨Nat.le_succ _, fun x => by show s.pl + 1 ≤ _; omega, fun e => absurd h.1 e, id⟩
theorem good_fail (ts : List Tok) {e : Nat} (he : e ≠ 0) (s : St) : Good ts s (failS e s) := by
  unfold failS
  split
  · rename_i h; exact ⟨Nat.le_refl _, id, fun x => absurd h x, fun x => absurd x he⟩
  · exact Good.refl _ _
theorem good_want (ts : List Tok) (q : List UInt8) (s : St) : Good ts s (wantS ts q s) := by
  unfold wantS
  split
  · rename_i h; exact good_adv (isW_at h)
  · exact good_fail ts (by decide) s
theorem good_name (ts : List Tok) (s : St) : Good ts s (nameS ts s).2 := by
  unfold nameS
  split
  · rename_i h; exact good_adv (isNm_at h)
  · exact good_fail ts (by decide) s
theorem good_num (ts : List Tok) (s : St) : Good ts s (numS ts s).2 := by
  unfold numS
  split
  · rename_i h; exact good_adv (isNr_at h)
  · exact good_fail ts (by decide) s
def GoodP (ts : List Tok) (w : Pa) : Prop := ∀ s, Good ts s (w s).2
theorem good_more {ts : List Tok} {w : Pa} (hw : GoodP ts w) : ∀ n l s, Good ts s (moreS ts w n l s).2
  | 0, _, s => Good.refl _ _
  | n + 1, l, s => by
    unfold moreS
    split
    · rename_i h; exact ((good_adv (isW_at h)).trans (hw _)).trans (good_more hw n _ _)
    · exact Good.refl _ _
theorem good_some {ts : List Tok} {w : Pa} (hw : GoodP ts w) (q : List UInt8) (s : St) : Good ts s (someS ts w q s).2 :=
  ((hw s).trans (good_more hw _ _ _)).trans (good_want ts q _)
theorem good_list {ts : List Tok} {w : Pa} (hw : GoodP ts w) (q : List UInt8) (s : St) : Good ts s (listS ts w q s).2 := by
  unfold listS
  split
  · rename_i h; exact good_adv (isW_at h)
  · exact good_some hw q s
theorem anyW_at {ts : List Tok} {sg : List (List UInt8)} {s : St} (h : anyW ts sg s = true) : s.er = 0 ∧ s.pl ≠ ts.length := by
  unfold anyW at h
  obtain ⟨q, _, hq⟩ := List.any_eq_true.1 h
  exact isW_at hq
theorem good_loopJ {ts : List Tok} {w : Pa} (hw : GoodP ts w) (sg : List (List UInt8)) : ∀ n x s, Good ts s (loopJ ts w sg n x s).2
  | 0, _, s => Good.refl _ _
  | n + 1, x, s => by
    unfold loopJ
    split
    · rename_i h; exact ((good_adv (anyW_at h)).trans (hw _)).trans (good_loopJ hw sg n _ _)
    · exact Good.refl _ _
theorem good_join {ts : List Tok} {w : Pa} (hw : GoodP ts w) (sg : List (List UInt8)) : GoodP ts (joinS ts w sg) := fun s => (hw s).trans (good_loopJ hw sg _ _ _)
structure GoodV (ts : List Tok) (v : Lv) : Prop where
  t : GoodP ts v.t
  e : GoodP ts v.e
  o : GoodP ts v.o
  s : GoodP ts v.s
theorem good_typ {ts : List Tok} {v : Lv} (h : GoodV ts v) : GoodP ts (typF ts v) := fun s => by
  unfold typF
  simp only
  split
  · rename_i h1; exact good_adv (isW_at h1)
  · split
    · rename_i h1; exact (good_adv (isW_at h1)).trans (h.t _)
    · split
      · rename_i h1; exact (((good_adv (isW_at h1)).trans (good_num ts _)).trans (good_want ts _ _)).trans (h.t _)
      · split
        · rename_i h1; exact (good_adv (isW_at h1)).trans (good_some h.t _ _)
        · exact good_fail ts (by decide) s
theorem good_prim {ts : List Tok} {v : Lv} (h : GoodV ts v) : GoodP ts (primF ts v) := fun s => by
  unfold primF
  simp only
  split
  · rename_i h1; exact good_adv (isNr_at h1)
  · split
    · rename_i h1
      split
      · rename_i h2; exact ((good_adv (isNm_at h1)).trans (good_adv (isW_at h2))).trans (good_list h.e _ _)
      · exact good_adv (isNm_at h1)
    · split
      · rename_i h1; exact (((good_adv (isW_at h1)).trans (good_want ts _ _)).trans (h.t _)).trans (good_want ts _ _)
      · split
        · rename_i h1; exact good_adv (isW_at h1)
        · split
          · rename_i h1; exact ((good_adv (isW_at h1)).trans (h.e _)).trans (good_want ts _ _)
          · exact good_fail ts (by decide) s
theorem good_loopP {ts : List Tok} {v : Lv} (h : GoodV ts v) : ∀ n x s, Good ts s (loopP ts v n x s).2
  | 0, _, s => Good.refl _ _
  | n + 1, x, s => by
    unfold loopP
    split
    · rename_i h1; exact (((good_adv (isW_at h1)).trans (h.e _)).trans (good_want ts _ _)).trans (good_loopP h n _ _)
    · split
      · rename_i h1; exact ((good_adv (isW_at h1)).trans (good_num ts _)).trans (good_loopP h n _ _)
      · exact Good.refl _ _
theorem good_part {ts : List Tok} {v : Lv} (h : GoodV ts v) : GoodP ts (partF ts v) := fun s => (good_prim h s).trans (good_loopP h _ _ _)
theorem good_oper {ts : List Tok} {v : Lv} (h : GoodV ts v) : GoodP ts (operF ts v) := fun s => by
  unfold operF
  simp only
  split
  · rename_i h1; exact (good_adv (isW_at h1)).trans (h.o _)
  · split
    · rename_i h1; exact (good_adv (isW_at h1)).trans (h.o _)
    · split
      · rename_i h1; exact (good_adv (isW_at h1)).trans (h.o _)
      · exact good_part h s
theorem good_prod {ts : List Tok} {v : Lv} (h : GoodV ts v) : GoodP ts (prodF ts v) := good_join (good_oper h) _
theorem good_sum {ts : List Tok} {v : Lv} (h : GoodV ts v) : GoodP ts (sumF ts v) := good_join (good_prod h) _
theorem good_expr {ts : List Tok} {v : Lv} (h : GoodV ts v) : GoodP ts (exprF ts v) := good_join (good_sum h) _
theorem good_loopB {ts : List Tok} {v : Lv} (h : GoodV ts v) : ∀ n l s, Good ts s (loopB ts v n l s).2
  | 0, _, s => Good.refl _ _
  | n + 1, l, s => by
    unfold loopB
    split
    · split
      · rename_i h1; exact good_adv (isW_at h1)
      · exact (h.s _).trans (good_loopB h n _ _)
    · exact Good.refl _ _
theorem good_block {ts : List Tok} {v : Lv} (h : GoodV ts v) : GoodP ts (blockF ts v) := fun s => (good_want ts _ s).trans (good_loopB h _ _ _)
theorem good_line {ts : List Tok} {v : Lv} (h : GoodV ts v) : GoodP ts (lineF ts v) := fun s => by
  unfold lineF
  simp only
  split
  · rename_i h1; exact ((good_adv (isW_at h1)).trans (good_name ts _)).trans (h.t _)
  · split
    · rename_i h1
      split
      · exact good_adv (isW_at h1)
      · exact (good_adv (isW_at h1)).trans (h.e _)
    · split
      · rename_i h1; exact (good_adv (isW_at h1)).trans (h.e _)
      · split
        · exact h.e _
        · exact ((h.e _).trans (good_want ts _ _)).trans (h.e _)
theorem good_stmt {ts : List Tok} {v : Lv} (h : GoodV ts v) : GoodP ts (stmtF ts v) := fun s => by
  unfold stmtF
  simp only
  split
  · rename_i h1
    split
    · rename_i h2; exact (((good_adv (isW_at h1)).trans (h.e _)).trans (good_block h _)).trans ((good_adv (isW_at h2)).trans (good_block h _))
    · exact ((good_adv (isW_at h1)).trans (h.e _)).trans (good_block h _)
  · split
    · rename_i h1; exact ((good_adv (isW_at h1)).trans (h.e _)).trans (good_block h _)
    · exact (good_line h s).trans (good_want ts _ _)
theorem good_deep (ts : List Tok) : GoodP ts tooDeep := fun s => good_fail ts (by decide) s
theorem good_lv (ts : List Tok) : ∀ r, GoodV ts (lv ts r)
  | 0 => ⟨good_deep ts, good_deep ts, good_deep ts, good_deep ts⟩
  | r + 1 => ⟨good_typ (good_lv ts r), good_expr (good_lv ts r), good_oper (good_lv ts r), good_stmt (good_lv ts r)⟩
theorem good_param {ts : List Tok} {v : Lv} (h : GoodV ts v) : GoodP ts (paramF ts v) := fun s => (good_name ts s).trans (h.t _)
theorem good_result {ts : List Tok} {v : Lv} (h : GoodV ts v) : GoodP ts (resultF ts v) := fun s => by
  unfold resultF
  split
  · exact Good.refl _ _
  · exact h.t s
theorem good_func {ts : List Tok} {v : Lv} (h : GoodV ts v) : GoodP ts (funcF ts v) := fun s => by
  unfold funcF
  simp only
  have h1 := good_want ts [102, 117, 110, 99] s
  generalize wantS ts [102, 117, 110, 99] s = s1 at *
  have h2 := good_name ts s1
  generalize (nameS ts s1).2 = s2 at *
  have h3 := good_want ts [40] s2
  generalize wantS ts [40] s2 = s3 at *
  have h4 := good_list (good_param h) [41] s3
  generalize (listS ts (paramF ts v) [41] s3).2 = s4 at *
  have h5 := good_result h s4
  generalize (resultF ts v s4).2 = s5 at *
  exact (((h1.trans h2).trans h3).trans h4).trans (h5.trans (good_block h s5))

end Go.Proofs.Ytgndnodahlabiaa

/- A parser of tokens (layer 10): what is parsed without an error takes a token at least. No program is named. -/
namespace Go.Proofs.Ytgndnodahlabiaa

/-- Without an error it goes on. -/
def Adv (a b : St) : Prop := b.er = 0 → a.pl < b.pl
theorem adv_good {ts : List Tok} {s b : St} (h : Good ts (adv s) b) : Adv s b := fun _ => by have := h.le; simp [adv] at this; omega
theorem adv_adv (s : St) : Adv s (adv s) := fun _ => Nat.lt_succ_self _
theorem Adv.good {ts : List Tok} {a b c : St} (h : Adv a b) (k : Good ts b c) : Adv a c := fun e => Nat.lt_of_lt_of_le (h (k.on e)) k.le
theorem Good.adv {ts : List Tok} {a b c : St} (h : Good ts a b) (k : Adv b c) : Adv a c := fun e => Nat.lt_of_le_of_lt h.le (k e)
theorem adv_fail {e : Nat} (he : e ≠ 0) (s : St) : Adv s (failS e s) := fun h => by
  unfold failS at h
  split at h
  · exact absurd h he
  · rename_i h2; exact absurd h h2
def AdvP (w : Pa) : Prop := ∀ s, Adv s (w s).2
structure AdvV (v : Lv) : Prop where
  t : AdvP v.t
  e : AdvP v.e
  o : AdvP v.o
  s : AdvP v.s
theorem advP_typ {ts : List Tok} {v : Lv} (h : GoodV ts v) : AdvP (typF ts v) := fun s => by
  unfold typF
  simp only
  split
  · exact adv_adv s
  · split
    · exact adv_good (h.t _)
    · split
      · exact adv_good (((good_num ts _).trans (good_want ts _ _)).trans (h.t _))
      · split
        · exact adv_good (good_some h.t _ _)
        · exact adv_fail (by decide) s
theorem advP_prim {ts : List Tok} {v : Lv} (h : GoodV ts v) : AdvP (primF ts v) := fun s => by
  unfold primF
  simp only
  split
  · exact adv_adv s
  · split
    · split
      · rename_i h2; exact adv_good ((good_adv (isW_at h2)).trans (good_list h.e _ _))
      · exact adv_adv s
    · split
      · exact adv_good (((good_want ts _ _).trans (h.t _)).trans (good_want ts _ _))
      · split
        · exact adv_adv s
        · split
          · exact adv_good ((h.e _).trans (good_want ts _ _))
          · exact adv_fail (by decide) s
theorem advP_part {ts : List Tok} {v : Lv} (h : GoodV ts v) : AdvP (partF ts v) := fun s => (advP_prim h s).good (good_loopP h _ _ _)
theorem advP_oper {ts : List Tok} {v : Lv} (h : GoodV ts v) : AdvP (operF ts v) := fun s => by
  unfold operF
  simp only
  split
  · exact adv_good (h.o _)
  · split
    · exact adv_good (h.o _)
    · split
      · exact adv_good (h.o _)
      · exact advP_part h s
theorem advP_join {ts : List Tok} {w : Pa} (hg : GoodP ts w) (hw : AdvP w) (sg : List (List UInt8)) : AdvP (joinS ts w sg) := fun s => (hw s).good (good_loopJ hg sg _ _ _)
theorem advP_expr {ts : List Tok} {v : Lv} (h : GoodV ts v) : AdvP (exprF ts v) :=
  advP_join (good_sum h) (advP_join (good_prod h) (advP_join (good_oper h) (advP_oper h) _) _) _
theorem advP_line {ts : List Tok} {v : Lv} (h : GoodV ts v) (k : AdvV v) : AdvP (lineF ts v) := fun s => by
  unfold lineF
  simp only
  split
  · exact adv_good ((good_name ts _).trans (h.t _))
  · split
    · split
      · exact adv_adv s
      · exact adv_good (h.e _)
    · split
      · exact adv_good (h.e _)
      · split
        · exact k.e s
        · exact (k.e s).good ((good_want ts _ _).trans (h.e _))
theorem advP_stmt {ts : List Tok} {v : Lv} (h : GoodV ts v) (k : AdvV v) : AdvP (stmtF ts v) := fun s => by
  unfold stmtF
  simp only
  split
  · split
    · rename_i h2; exact adv_good (((h.e _).trans (good_block h _)).trans ((good_adv (isW_at h2)).trans (good_block h _)))
    · exact adv_good ((h.e _).trans (good_block h _))
  · split
    · exact adv_good ((h.e _).trans (good_block h _))
    · exact (advP_line h k s).good (good_want ts _ _)
theorem advP_deep : AdvP tooDeep := fun s => adv_fail (by decide) s
theorem adv_lv (ts : List Tok) : ∀ r, AdvV (lv ts r)
  | 0 => ⟨advP_deep, advP_deep, advP_deep, advP_deep⟩
  | r + 1 => ⟨advP_typ (good_lv ts r), advP_expr (good_lv ts r), advP_oper (good_lv ts r), advP_stmt (good_lv ts r) (adv_lv ts r)⟩
theorem advP_func {ts : List Tok} {v : Lv} (h : GoodV ts v) : AdvP (funcF ts v) := fun s => by
  unfold funcF
  simp only
  have hw : Adv s (wantS ts [102, 117, 110, 99] s) := by
    unfold wantS
    split
    · exact adv_adv s
    · exact adv_fail (by decide) s
  generalize wantS ts [102, 117, 110, 99] s = s1 at *
  have h2 := good_name ts s1
  generalize (nameS ts s1).2 = s2 at *
  have h3 := good_want ts [40] s2
  generalize wantS ts [40] s2 = s3 at *
  have h4 := good_list (good_param h) [41] s3
  generalize (listS ts (paramF ts v) [41] s3).2 = s4 at *
  have h5 := good_result h s4
  generalize (resultF ts v s4).2 = s5 at *
  exact hw.good (((h2.trans h3).trans h4).trans (h5.trans (good_block h s5)))

/-- How much is left: tokens, and one while there is no error. -/
def mu (ts : List Tok) (s : St) : Nat := left ts s + if s.er = 0 then 1 else 0
theorem mu_lt {ts : List Tok} {a b : St} (hg : Good ts a b) (h : Adv a b) (he : a.er = 0) (hb : a.pl ≤ ts.length) : mu ts b < mu ts a := by
  have h1 := hg.le
  have h2 := hg.bd hb
  unfold mu left
  rw [if_pos he]
  by_cases e : b.er = 0
  · have := h e
    rw [if_pos e]; omega
  · rw [if_neg e]; omega
theorem mu_le (ts : List Tok) (s : St) : mu ts s ≤ left ts s + 1 := by unfold mu; split <;> omega

end Go.Proofs.Ytgndnodahlabiaa

/- Two parsers side by side (layer 10): what is parsed hangs on the tokens that are looked at alone. No program is named. -/
namespace Go.Proofs.Ytgndnodahlabiaa

/-- The tokens of the one are those of the other, d places on, up to place N. -/
structure Sim (ts ts' : List Tok) (N d : Nat) : Prop where
  h : ∀ s : St, s.pl < N → nextT ts s = nextT ts' ⟨d + s.pl, s.er⟩
  b : N ≤ ts.length + 1
  d : d + ts.length ≤ ts'.length
abbrev sh (d : Nat) (s : St) : St := ⟨d + s.pl, s.er⟩
theorem sh_adv (d : Nat) (s : St) : adv (sh d s) = sh d (adv s) := by simp [adv, Nat.add_assoc]
theorem sh_fail (d e : Nat) (s : St) : failS e (sh d s) = sh d (failS e s) := by unfold failS; split <;> rfl
theorem Sim.isW {ts ts' : List Tok} {N d : Nat} (H : Sim ts ts' N d) (q : List UInt8) {s : St} (h : s.pl < N) : isW ts' q (sh d s) = isW ts q s := by unfold Go.Proofs.Ytgndnodahlabiaa.isW; rw [H.h s h]
theorem Sim.isNm {ts ts' : List Tok} {N d : Nat} (H : Sim ts ts' N d) {s : St} (h : s.pl < N) : isNm ts' (sh d s) = isNm ts s := by unfold Go.Proofs.Ytgndnodahlabiaa.isNm; rw [H.h s h]
theorem Sim.isNr {ts ts' : List Tok} {N d : Nat} (H : Sim ts ts' N d) {s : St} (h : s.pl < N) : isNr ts' (sh d s) = isNr ts s := by unfold Go.Proofs.Ytgndnodahlabiaa.isNr; rw [H.h s h]
theorem Sim.want {ts ts' : List Tok} {N d : Nat} (H : Sim ts ts' N d) (q : List UInt8) {s : St} (h : s.pl < N) : wantS ts' q (sh d s) = sh d (wantS ts q s) := by
  unfold wantS; rw [H.isW q h]; split
  · exact sh_adv d s
  · exact sh_fail d 2 s
theorem Sim.name {ts ts' : List Tok} {N d : Nat} (H : Sim ts ts' N d) {s : St} (h : s.pl < N) : nameS ts' (sh d s) = ((nameS ts s).1, sh d (nameS ts s).2) := by
  unfold nameS; rw [H.isNm h]; split
  · rw [H.h s h, sh_adv]
  · rw [sh_fail]
theorem Sim.num {ts ts' : List Tok} {N d : Nat} (H : Sim ts ts' N d) {s : St} (h : s.pl < N) : numS ts' (sh d s) = ((numS ts s).1, sh d (numS ts s).2) := by
  unfold numS; rw [H.isNr h]; split
  · rw [H.h s h, sh_adv]
  · rw [sh_fail]
theorem isW_lt {ts : List Tok} {q : List UInt8} {s : St} (h : isW ts q s = true) : s.pl < ts.length := by
  have h1 := isW_at h
  by_cases hl : s.pl < ts.length
  · exact hl
  · exfalso
    unfold Go.Proofs.Ytgndnodahlabiaa.isW nextT at h
    rw [if_neg (by rintro (e | e); exact e h1.1; exact h1.2 e), List.getD_eq_getElem?_getD, List.getElem?_eq_none (by omega)] at h
    simp only [Option.getD_none, Bool.and_eq_true, decide_eq_true_eq] at h
    exact kindOf_pos q h.1.symm
/-- What is parsed alike. -/
def SimP (N d : Nat) (w w' : Pa) : Prop := ∀ s : St, (w s).2.pl < N → w' (sh d s) = ((w s).1, sh d (w s).2)
theorem more_sim {ts ts' : List Tok} {N d : Nat} (H : Sim ts ts' N d) {w w' : Pa} (hw : SimP N d w w') (hg : GoodP ts w) : ∀ (n n' : Nat) (l : List Nd) (s : St), (moreS ts w n l s).2.pl < N → left ts s ≤ n → left ts' (sh d s) ≤ n' → moreS ts' w' n' l (sh d s) = ((moreS ts w n l s).1, sh d (moreS ts w n l s).2) := by
  intro n
  induction n with
  | zero =>
    intro n' l s hN hl hl'
    rw [moreS] at hN ⊢
    cases n' with
    | zero => rw [moreS]
    | succ n' =>
      rw [moreS, if_neg]
      have hs : s.pl < N := hN
      rw [H.isW _ hs]
      intro h
      have := isW_lt h
      unfold left at hl
      omega
  | succ n ih =>
    intro n' l s hN hl hl'
    have hs : s.pl < N := Nat.lt_of_le_of_lt (good_more hg (n + 1) l s).le hN
    by_cases hq : isW ts [44] s = true
    · have hq' : isW ts' [44] (sh d s) = true := by rw [H.isW _ hs]; exact hq
      have h1 := isW_lt hq
      have h1' := isW_lt hq'
      rw [moreS, if_pos hq] at hN ⊢
      obtain ⟨m', rfl⟩ : ∃ m', n' = m' + 1 := ⟨n' - 1, by unfold left at hl'; simp at h1' hl'; omega⟩
      rw [moreS, if_pos hq', sh_adv]
      have hwN : (w (adv s)).2.pl < N := Nat.lt_of_le_of_lt (good_more hg n _ _).le hN
      rw [hw (adv s) hwN]
      have e1 : s.pl + 1 ≤ (w (adv s)).2.pl := (hg (adv s)).le
      refine ih m' _ _ hN ?_ ?_
      · unfold left at hl ⊢; omega
      · unfold left at hl' ⊢
        show ts'.length - (d + (w (adv s)).2.pl) ≤ m'
        have hl'' : ts'.length - (d + s.pl) ≤ m' + 1 := hl'
        omega
    · have hq' : ¬ isW ts' [44] (sh d s) = true := by rw [H.isW _ hs]; exact hq
      rw [moreS, if_neg hq]
      cases n' with
      | zero => rw [moreS]
      | succ n' => rw [moreS, if_neg hq']
theorem some_sim {ts ts' : List Tok} {N d : Nat} (H : Sim ts ts' N d) {w w' : Pa} (hw : SimP N d w w') (hg : GoodP ts w) (q : List UInt8) (s : St) (hN : (someS ts w q s).2.pl < N) : someS ts' w' q (sh d s) = ((someS ts w q s).1, sh d (someS ts w q s).2) := by
  unfold someS at hN ⊢
  simp only at hN ⊢
  have h1 : (moreS ts w (left ts (w s).2) [(w s).1] (w s).2).2.pl < N := Nat.lt_of_le_of_lt (good_want ts q _).le hN
  have h2 : (w s).2.pl < N := Nat.lt_of_le_of_lt (good_more hg _ _ _).le h1
  rw [hw s h2]
  simp only
  rw [more_sim H hw hg _ _ _ _ h1 (Nat.le_refl _) (Nat.le_refl _)]
  simp only
  rw [H.want q h1]
theorem list_sim {ts ts' : List Tok} {N d : Nat} (H : Sim ts ts' N d) {w w' : Pa} (hw : SimP N d w w') (hg : GoodP ts w) (q : List UInt8) (s : St) (hN : (listS ts w q s).2.pl < N) : listS ts' w' q (sh d s) = ((listS ts w q s).1, sh d (listS ts w q s).2) := by
  have hs : s.pl < N := Nat.lt_of_le_of_lt (good_list hg q s).le hN
  unfold listS at hN ⊢
  rw [H.isW q hs]
  split
  · rw [sh_adv]
  · rename_i h; rw [if_neg h] at hN; exact some_sim H hw hg q s hN
theorem anyW_sim {ts ts' : List Tok} {N d : Nat} (H : Sim ts ts' N d) (sg : List (List UInt8)) {s : St} (h : s.pl < N) : anyW ts' sg (sh d s) = anyW ts sg s := by
  unfold anyW; congr 1; funext q; exact H.isW q h
theorem anyW_lt {ts : List Tok} {sg : List (List UInt8)} {s : St} (h : anyW ts sg s = true) : s.pl < ts.length := by
  unfold anyW at h
  obtain ⟨q, _, hq⟩ := List.any_eq_true.1 h
  exact isW_lt hq
theorem loopJ_sim {ts ts' : List Tok} {N d : Nat} (H : Sim ts ts' N d) {w w' : Pa} (hw : SimP N d w w') (hg : GoodP ts w) (sg : List (List UInt8)) : ∀ (n n' : Nat) (x : Nd) (s : St), (loopJ ts w sg n x s).2.pl < N → left ts s ≤ n → left ts' (sh d s) ≤ n' → loopJ ts' w' sg n' x (sh d s) = ((loopJ ts w sg n x s).1, sh d (loopJ ts w sg n x s).2) := by
  intro n
  induction n with
  | zero =>
    intro n' x s hN hl hl'
    rw [loopJ] at hN ⊢
    cases n' with
    | zero => rw [loopJ]
    | succ n' =>
      rw [loopJ, if_neg]
      have hs : s.pl < N := hN
      rw [anyW_sim H _ hs]
      intro h
      have := anyW_lt h
      unfold left at hl
      omega
  | succ n ih =>
    intro n' x s hN hl hl'
    have hs : s.pl < N := Nat.lt_of_le_of_lt (good_loopJ hg sg (n + 1) x s).le hN
    by_cases hq : anyW ts sg s = true
    · have hq' : anyW ts' sg (sh d s) = true := by rw [anyW_sim H _ hs]; exact hq
      have h1 := anyW_lt hq
      have h1' := anyW_lt hq'
      rw [loopJ, if_pos hq] at hN ⊢
      obtain ⟨m', rfl⟩ : ∃ m', n' = m' + 1 := ⟨n' - 1, by unfold left at hl'; simp at h1' hl'; omega⟩
      rw [loopJ, if_pos hq', sh_adv, ← H.h s hs]
      have hwN : (w (adv s)).2.pl < N := Nat.lt_of_le_of_lt (good_loopJ hg sg n _ _).le hN
      rw [hw (adv s) hwN]
      have e1 : s.pl + 1 ≤ (w (adv s)).2.pl := (hg (adv s)).le
      refine ih m' _ _ hN ?_ ?_
      · unfold left at hl ⊢; omega
      · unfold left at hl' ⊢
        show ts'.length - (d + (w (adv s)).2.pl) ≤ m'
        have hl'' : ts'.length - (d + s.pl) ≤ m' + 1 := hl'
        omega
    · have hq' : ¬ anyW ts' sg (sh d s) = true := by rw [anyW_sim H _ hs]; exact hq
      rw [loopJ, if_neg hq]
      cases n' with
      | zero => rw [loopJ]
      | succ n' => rw [loopJ, if_neg hq']
theorem join_sim {ts ts' : List Tok} {N d : Nat} (H : Sim ts ts' N d) {w w' : Pa} (hw : SimP N d w w') (hg : GoodP ts w) (sg : List (List UInt8)) : SimP N d (joinS ts w sg) (joinS ts' w' sg) := fun s hN => by
  unfold joinS at hN ⊢
  have h1 : (w s).2.pl < N := Nat.lt_of_le_of_lt (good_loopJ hg sg _ _ _).le hN
  rw [hw s h1]
  simp only
  exact loopJ_sim H hw hg sg _ _ _ _ hN (Nat.le_refl _) (Nat.le_refl _)
structure SimV (N d : Nat) (v v' : Lv) : Prop where
  t : SimP N d v.t v'.t
  e : SimP N d v.e v'.e
  o : SimP N d v.o v'.o
  s : SimP N d v.s v'.s
theorem typ_sim {ts ts' : List Tok} {N d : Nat} (H : Sim ts ts' N d) {v v' : Lv} (V : SimV N d v v') (hg : GoodV ts v) : SimP N d (typF ts v) (typF ts' v') := fun s hN => by
  have hs : s.pl < N := Nat.lt_of_le_of_lt (good_typ hg s).le hN
  unfold typF at hN ⊢
  simp only at hN ⊢
  rw [← H.h s hs]
  simp only [H.isW _ hs]
  split
  · rw [sh_adv]
  · rename_i c1
    rw [if_neg c1] at hN
    split
    · rename_i c2
      rw [if_pos c2] at hN
      rw [sh_adv, V.t _ hN]
    · rename_i c2
      rw [if_neg c2] at hN
      split
      · rename_i c3
        rw [if_pos c3] at hN
        have h1 : (wantS ts [93] (numS ts (adv s)).2).pl < N := Nat.lt_of_le_of_lt (hg.t _).le hN
        have h2 : (numS ts (adv s)).2.pl < N := Nat.lt_of_le_of_lt (good_want ts _ _).le h1
        have h3 : (adv s).pl < N := Nat.lt_of_le_of_lt (good_num ts _).le h2
        rw [sh_adv, H.num h3]
        simp only
        rw [H.want _ h2, V.t _ hN]
      · rename_i c3
        rw [if_neg c3] at hN
        split
        · rename_i c4
          rw [if_pos c4] at hN
          rw [sh_adv, some_sim H V.t hg.t _ _ hN]
        · rw [sh_fail]
theorem prim_sim {ts ts' : List Tok} {N d : Nat} (H : Sim ts ts' N d) {v v' : Lv} (V : SimV N d v v') (hg : GoodV ts v) : SimP N d (primF ts v) (primF ts' v') := fun s hN => by
  have hs : s.pl < N := Nat.lt_of_le_of_lt (good_prim hg s).le hN
  unfold primF at hN ⊢
  simp only at hN ⊢
  rw [← H.h s hs]
  simp only [H.isW _ hs, H.isNr hs, H.isNm hs]
  split
  · rw [sh_adv]
  · rename_i c1
    rw [if_neg c1] at hN
    split
    · rename_i c2
      rw [if_pos c2] at hN
      have ha : (adv s).pl < N := by
        split at hN
        · have h1 : s.pl + 1 + 1 ≤ (listS ts v.e [41] (adv (adv s))).2.pl := (good_list hg.e [41] (adv (adv s))).le
          have h2 : (listS ts v.e [41] (adv (adv s))).2.pl < N := hN
          show s.pl + 1 < N
          omega
        · exact hN
      rw [sh_adv, H.isW _ ha]
      split
      · rename_i c3
        rw [if_pos c3] at hN
        rw [sh_adv, list_sim H V.e hg.e _ _ hN]
      · rfl
    · rename_i c2
      rw [if_neg c2] at hN
      split
      · rename_i c3
        rw [if_pos c3] at hN
        have h1 : (v.t (wantS ts [40] (adv s))).2.pl < N := Nat.lt_of_le_of_lt (good_want ts _ _).le hN
        have h2 : (wantS ts [40] (adv s)).pl < N := Nat.lt_of_le_of_lt (hg.t _).le h1
        have h3 : (adv s).pl < N := Nat.lt_of_le_of_lt (good_want ts _ _).le h2
        rw [sh_adv, H.want _ h3, V.t _ h1]
        simp only
        rw [H.want _ h1]
      · rename_i c3
        rw [if_neg c3] at hN
        split
        · rw [sh_adv]
        · rename_i c4
          rw [if_neg c4] at hN
          split
          · rename_i c5
            rw [if_pos c5] at hN
            have h1 : (v.e (adv s)).2.pl < N := Nat.lt_of_le_of_lt (good_want ts _ _).le hN
            rw [sh_adv, V.e _ h1]
            simp only
            rw [H.want _ h1]
          · rw [sh_fail]
theorem loopP_sim {ts ts' : List Tok} {N d : Nat} (H : Sim ts ts' N d) {v v' : Lv} (V : SimV N d v v') (hg : GoodV ts v) : ∀ (n n' : Nat) (x : Nd) (s : St), (loopP ts v n x s).2.pl < N → left ts s ≤ n → left ts' (sh d s) ≤ n' → loopP ts' v' n' x (sh d s) = ((loopP ts v n x s).1, sh d (loopP ts v n x s).2) := by
  intro n
  induction n with
  | zero =>
    intro n' x s hN hl hl'
    rw [loopP] at hN ⊢
    have hs : s.pl < N := hN
    have hno : ∀ q, ¬ isW ts' q (sh d s) = true := fun q => by
      rw [H.isW _ hs]
      intro h
      have := isW_lt h
      unfold left at hl
      omega
    cases n' with
    | zero => rw [loopP]
    | succ n' => rw [loopP, if_neg (hno _), if_neg (hno _)]
  | succ n ih =>
    intro n' x s hN hl hl'
    have hs : s.pl < N := Nat.lt_of_le_of_lt (good_loopP hg (n + 1) x s).le hN
    by_cases hq : isW ts [91] s = true
    · have hq' : isW ts' [91] (sh d s) = true := by rw [H.isW _ hs]; exact hq
      have h1 := isW_lt hq
      have h1' : d + s.pl < ts'.length := isW_lt hq'
      rw [loopP, if_pos hq] at hN ⊢
      obtain ⟨m', rfl⟩ : ∃ m', n' = m' + 1 := ⟨n' - 1, by unfold left at hl'; have : ts'.length - (d + s.pl) ≤ n' := hl'; omega⟩
      rw [loopP, if_pos hq', sh_adv]
      have hb : (wantS ts [93] (v.e (adv s)).2).pl < N := Nat.lt_of_le_of_lt (good_loopP hg n _ _).le hN
      have ha : (v.e (adv s)).2.pl < N := Nat.lt_of_le_of_lt (good_want ts _ _).le hb
      rw [V.e _ ha]
      simp only
      rw [H.want _ ha]
      have e1 : s.pl + 1 ≤ (v.e (adv s)).2.pl := (hg.e (adv s)).le
      have e2 := (good_want ts [93] (v.e (adv s)).2).le
      refine ih m' _ _ hN ?_ ?_
      · unfold left at hl ⊢; omega
      · unfold left at hl' ⊢
        show ts'.length - (d + (wantS ts [93] (v.e (adv s)).2).pl) ≤ m'
        have hl'' : ts'.length - (d + s.pl) ≤ m' + 1 := hl'
        omega
    · have hq' : ¬ isW ts' [91] (sh d s) = true := by rw [H.isW _ hs]; exact hq
      by_cases hp : isW ts [46] s = true
      · have hp' : isW ts' [46] (sh d s) = true := by rw [H.isW _ hs]; exact hp
        have h1 := isW_lt hp
        have h1' : d + s.pl < ts'.length := isW_lt hp'
        rw [loopP, if_neg hq, if_pos hp] at hN ⊢
        obtain ⟨m', rfl⟩ : ∃ m', n' = m' + 1 := ⟨n' - 1, by unfold left at hl'; have : ts'.length - (d + s.pl) ≤ n' := hl'; omega⟩
        rw [loopP, if_neg hq', if_pos hp', sh_adv]
        have hb : (numS ts (adv s)).2.pl < N := Nat.lt_of_le_of_lt (good_loopP hg n _ _).le hN
        have ha : (adv s).pl < N := Nat.lt_of_le_of_lt (good_num ts _).le hb
        rw [H.num ha]
        simp only
        have e1 : s.pl + 1 ≤ (numS ts (adv s)).2.pl := (good_num ts (adv s)).le
        refine ih m' _ _ hN ?_ ?_
        · unfold left at hl ⊢; omega
        · unfold left at hl' ⊢
          show ts'.length - (d + (numS ts (adv s)).2.pl) ≤ m'
          have hl'' : ts'.length - (d + s.pl) ≤ m' + 1 := hl'
          omega
      · have hp' : ¬ isW ts' [46] (sh d s) = true := by rw [H.isW _ hs]; exact hp
        rw [loopP, if_neg hq, if_neg hp]
        cases n' with
        | zero => rw [loopP]
        | succ n' => rw [loopP, if_neg hq', if_neg hp']
theorem part_sim {ts ts' : List Tok} {N d : Nat} (H : Sim ts ts' N d) {v v' : Lv} (V : SimV N d v v') (hg : GoodV ts v) : SimP N d (partF ts v) (partF ts' v') := fun s hN => by
  unfold partF at hN ⊢
  have h1 : (primF ts v s).2.pl < N := Nat.lt_of_le_of_lt (good_loopP hg _ _ _).le hN
  rw [prim_sim H V hg s h1]
  simp only
  exact loopP_sim H V hg _ _ _ _ hN (Nat.le_refl _) (Nat.le_refl _)
theorem oper_sim {ts ts' : List Tok} {N d : Nat} (H : Sim ts ts' N d) {v v' : Lv} (V : SimV N d v v') (hg : GoodV ts v) : SimP N d (operF ts v) (operF ts' v') := fun s hN => by
  have hs : s.pl < N := Nat.lt_of_le_of_lt (good_oper hg s).le hN
  unfold operF at hN ⊢
  simp only at hN ⊢
  rw [← H.h s hs]
  simp only [H.isW _ hs]
  split
  · rename_i c1
    rw [if_pos c1] at hN
    rw [sh_adv, V.o _ hN]
  · rename_i c1
    rw [if_neg c1] at hN
    split
    · rename_i c2
      rw [if_pos c2] at hN
      rw [sh_adv, V.o _ hN]
    · rename_i c2
      rw [if_neg c2] at hN
      split
      · rename_i c3
        rw [if_pos c3] at hN
        rw [sh_adv, V.o _ hN]
      · rename_i c3
        rw [if_neg c3] at hN
        exact part_sim H V hg s hN
theorem expr_sim {ts ts' : List Tok} {N d : Nat} (H : Sim ts ts' N d) {v v' : Lv} (V : SimV N d v v') (hg : GoodV ts v) : SimP N d (exprF ts v) (exprF ts' v') :=
  join_sim H (join_sim H (join_sim H (oper_sim H V hg) (good_oper hg) _) (good_prod hg) _) (good_sum hg) _
/-- Errors are kept. -/
theorem loopB_er {ts : List Tok} {v : Lv} : ∀ (n : Nat) (l : List Nd) (s : St), s.er ≠ 0 → loopB ts v n l s = (l, s) := by
  intro n l s h
  cases n with
  | zero => rw [loopB]
  | succ n => rw [loopB, if_neg h]
theorem loopB_adv {ts : List Tok} {v : Lv} (hg : GoodV ts v) (ha : AdvV v) (n : Nat) (l : List Nd) (s : St) (hn : mu ts s < n) (he : (loopB ts v n l s).2.er = 0) : s.pl < (loopB ts v n l s).2.pl := by
  have hs := (good_loopB hg n l s).on he
  cases n with
  | zero => omega
  | succ n =>
    rw [loopB, if_pos hs] at he ⊢
    by_cases hq : isW ts [125] s = true
    · rw [if_pos hq]; exact Nat.lt_succ_self _
    · rw [if_neg hq] at he ⊢
      have h1 := ha.s s ((good_loopB hg n _ _).on he)
      exact Nat.lt_of_lt_of_le h1 (good_loopB hg n _ _).le
/-- Within what is alike, or at its end without an error. -/
def Wit (N : Nat) (s : St) : Prop := s.pl < N ∨ s.er = 0 ∧ s.pl ≤ N
theorem loopB_sim {ts ts' : List Tok} {N d : Nat} (H : Sim ts ts' N d) {v v' : Lv} (V : SimV N d v v') (hg : GoodV ts v) (ha : AdvV v) : ∀ (n n' : Nat) (l : List Nd) (s : St), Wit N (loopB ts v n l s).2 → mu ts s < n → mu ts' (sh d s) < n' → loopB ts' v' n' l (sh d s) = ((loopB ts v n l s).1, sh d (loopB ts v n l s).2) := by
  intro n
  induction n with
  | zero => intro n' l s _ h; omega
  | succ n ih =>
    intro n' l s hN hl hl'
    obtain ⟨m', rfl⟩ : ∃ m', n' = m' + 1 := ⟨n' - 1, by omega⟩
    by_cases he : s.er = 0
    · have hs : s.pl < N := by
        rcases hN with hN | ⟨hN1, hN2⟩
        · exact Nat.lt_of_le_of_lt (good_loopB hg (n + 1) l s).le hN
        · exact Nat.lt_of_lt_of_le (loopB_adv hg ha (n + 1) l s hl hN1) hN2
      have hb : s.pl ≤ ts.length := by have := H.b; omega
      have hd := H.d
      rw [loopB, if_pos he] at hN ⊢
      rw [loopB, if_pos (show (sh d s).er = 0 from he), H.isW _ hs]
      by_cases hq : isW ts [125] s = true
      · rw [if_pos hq, if_pos hq, sh_adv]
      · rw [if_neg hq] at hN ⊢
        rw [if_neg hq]
        have hgs := hg.s s
        have hm := mu_lt hgs (ha.s s) he hb
        have h1 : (v.s s).2.pl < N := by
          rcases hN with hN | ⟨hN1, hN2⟩
          · exact Nat.lt_of_le_of_lt (good_loopB hg n _ _).le hN
          · exact Nat.lt_of_lt_of_le (loopB_adv hg ha n _ _ (by omega) hN1) hN2
        rw [V.s _ h1]
        simp only
        refine ih m' _ _ hN (by omega) ?_
        have hm' : mu ts' (sh d (v.s s).2) < mu ts' (sh d s) := by
          have e1 := hgs.le
          have e2 := hgs.bd hb
          unfold mu left
          rw [if_pos (show (sh d s).er = 0 from he)]
          by_cases e : (v.s s).2.er = 0
          · have := ha.s s e
            rw [if_pos (show (sh d (v.s s).2).er = 0 from e)]
            show ts'.length - (d + (v.s s).2.pl) + 1 < ts'.length - (d + s.pl) + 1
            omega
          · rw [if_neg (show ¬ (sh d (v.s s).2).er = 0 from e)]
            show ts'.length - (d + (v.s s).2.pl) + 0 < ts'.length - (d + s.pl) + 1
            omega
        omega
    · rw [loopB_er _ _ _ he, loopB_er _ _ _ (show (sh d s).er ≠ 0 from he)]
theorem adv_block {ts : List Tok} {v : Lv} (hg : GoodV ts v) (ha : AdvV v) : AdvP (blockF ts v) := fun s he => by
  have h1 := mu_le ts (wantS ts [123] s)
  have h2 := loopB_adv hg ha _ [] (wantS ts [123] s) (Nat.lt_of_le_of_lt h1 (Nat.lt_succ_self _)) he
  exact Nat.lt_of_le_of_lt (good_want ts _ s).le h2
theorem Wit.back {ts : List Tok} {N : Nat} {a b : St} (h : Wit N b) (g : Good ts a b) (k : Adv a b) : a.pl < N := by
  rcases h with h | ⟨h1, h2⟩
  · exact Nat.lt_of_le_of_lt g.le h
  · exact Nat.lt_of_lt_of_le (k h1) h2
theorem block_sim {ts ts' : List Tok} {N d : Nat} (H : Sim ts ts' N d) {v v' : Lv} (V : SimV N d v v') (hg : GoodV ts v) (ha : AdvV v) (s : St) (hN : Wit N (blockF ts v s).2) : blockF ts' v' (sh d s) = ((blockF ts v s).1, sh d (blockF ts v s).2) := by
  have hs : s.pl < N := hN.back (good_block hg s) (adv_block hg ha s)
  unfold blockF at hN ⊢
  simp only at hN ⊢
  rw [← H.h s hs, H.want _ hs, loopB_sim H V hg ha _ _ _ _ hN (Nat.lt_succ_of_le (mu_le _ _)) (Nat.lt_succ_of_le (mu_le _ _))]
theorem line_sim {ts ts' : List Tok} {N d : Nat} (H : Sim ts ts' N d) {v v' : Lv} (V : SimV N d v v') (hg : GoodV ts v) : SimP N d (lineF ts v) (lineF ts' v') := fun s hN => by
  have hs : s.pl < N := Nat.lt_of_le_of_lt (good_line hg s).le hN
  unfold lineF at hN ⊢
  simp only at hN ⊢
  rw [← H.h s hs]
  simp only [H.isW _ hs]
  split
  · rename_i c1
    rw [if_pos c1] at hN
    have h1 : (nameS ts (adv s)).2.pl < N := Nat.lt_of_le_of_lt (hg.t _).le hN
    have h2 : (adv s).pl < N := Nat.lt_of_le_of_lt (good_name ts _).le h1
    rw [sh_adv, H.name h2]
    simp only
    rw [V.t _ hN]
  · rename_i c1
    rw [if_neg c1] at hN
    split
    · rename_i c2
      rw [if_pos c2] at hN
      have h1 : (adv s).pl < N := by
        split at hN
        · exact hN
        · exact Nat.lt_of_le_of_lt (hg.e _).le hN
      rw [sh_adv, H.isW _ h1]
      split
      · rfl
      · rename_i c3
        rw [if_neg c3] at hN
        rw [V.e _ hN]
    · rename_i c2
      rw [if_neg c2] at hN
      split
      · rename_i c3
        rw [if_pos c3] at hN
        rw [sh_adv, V.e _ hN]
      · rename_i c3
        rw [if_neg c3] at hN
        have h1 : (v.e s).2.pl < N := by
          split at hN
          · exact hN
          · exact Nat.lt_of_le_of_lt (Nat.le_trans (good_want ts _ _).le (hg.e _).le) hN
        rw [V.e _ h1]
        simp only
        rw [H.isW _ h1]
        split
        · rfl
        · rename_i c4
          rw [if_neg c4] at hN
          have h2 : (wantS ts [61] (v.e s).2).pl < N := Nat.lt_of_le_of_lt (hg.e _).le hN
          rw [H.want _ h1, V.e _ hN]
theorem stmt_sim {ts ts' : List Tok} {N d : Nat} (H : Sim ts ts' N d) {v v' : Lv} (V : SimV N d v v') (hg : GoodV ts v) (ha : AdvV v) : SimP N d (stmtF ts v) (stmtF ts' v') := fun s hN => by
  have hs : s.pl < N := Nat.lt_of_le_of_lt (good_stmt hg s).le hN
  unfold stmtF at hN ⊢
  simp only at hN ⊢
  rw [← H.h s hs]
  simp only [H.isW _ hs]
  split
  · rename_i c1
    rw [if_pos c1] at hN
    have h1 : (blockF ts v (v.e (adv s)).2).2.pl < N := by
      split at hN
      · have e1 : (blockF ts v (v.e (adv s)).2).2.pl + 1 ≤ _ := (good_block hg (adv (blockF ts v (v.e (adv s)).2).2)).le
        exact Nat.lt_of_lt_of_le (Nat.lt_succ_self _) (Nat.le_trans e1 (Nat.le_of_lt hN))
      · exact hN
    have h2 : (v.e (adv s)).2.pl < N := Nat.lt_of_le_of_lt (good_block hg _).le h1
    rw [sh_adv, V.e _ h2]
    simp only
    rw [block_sim H V hg ha _ (.inl h1)]
    simp only
    rw [H.isW _ h1]
    split
    · rename_i c2
      rw [if_pos c2] at hN
      rw [sh_adv, block_sim H V hg ha _ (.inl hN)]
    · rfl
  · rename_i c1
    rw [if_neg c1] at hN
    split
    · rename_i c2
      rw [if_pos c2] at hN
      have h2 : (v.e (adv s)).2.pl < N := Nat.lt_of_le_of_lt (good_block hg _).le hN
      rw [sh_adv, V.e _ h2]
      simp only
      rw [block_sim H V hg ha _ (.inl hN)]
    · rename_i c2
      rw [if_neg c2] at hN
      have h1 : (lineF ts v s).2.pl < N := Nat.lt_of_le_of_lt (good_want ts _ _).le hN
      rw [line_sim H V hg s h1]
      simp only
      rw [H.want _ h1]
theorem deep_sim (N d : Nat) : SimP N d tooDeep tooDeep := fun s _ => by unfold tooDeep; rw [sh_fail]
theorem lv_sim {ts ts' : List Tok} {N d : Nat} (H : Sim ts ts' N d) : ∀ r, SimV N d (lv ts r) (lv ts' r)
  | 0 => ⟨deep_sim N d, deep_sim N d, deep_sim N d, deep_sim N d⟩
  | r + 1 =>
    have V := lv_sim H r
    have g := good_lv ts r
    ⟨typ_sim H V g, expr_sim H V g, oper_sim H V g, stmt_sim H V g (adv_lv ts r)⟩
theorem param_sim {ts ts' : List Tok} {N d : Nat} (H : Sim ts ts' N d) {v v' : Lv} (V : SimV N d v v') (hg : GoodV ts v) : SimP N d (paramF ts v) (paramF ts' v') := fun s hN => by
  unfold paramF at hN ⊢
  simp only at hN ⊢
  have h1 : (nameS ts s).2.pl < N := Nat.lt_of_le_of_lt (hg.t _).le hN
  have hs : s.pl < N := Nat.lt_of_le_of_lt (good_name ts _).le h1
  rw [← H.h s hs, H.name hs]
  simp only
  rw [V.t _ hN]
theorem result_sim {ts ts' : List Tok} {N d : Nat} (H : Sim ts ts' N d) {v v' : Lv} (V : SimV N d v v') (hg : GoodV ts v) : SimP N d (resultF ts v) (resultF ts' v') := fun s hN => by
  have hs : s.pl < N := Nat.lt_of_le_of_lt (good_result hg s).le hN
  unfold resultF at hN ⊢
  rw [← H.h s hs, H.isW _ hs]
  split
  · rfl
  · rename_i c
    rw [if_neg c] at hN
    exact V.t _ hN
theorem func_sim {ts ts' : List Tok} {N d : Nat} (H : Sim ts ts' N d) {v v' : Lv} (V : SimV N d v v') (hg : GoodV ts v) (ha : AdvV v) (s : St) (hN : Wit N (funcF ts v s).2) : funcF ts' v' (sh d s) = ((funcF ts v s).1, sh d (funcF ts v s).2) := by
  unfold funcF at hN ⊢
  simp only at hN ⊢
  have h5 : (resultF ts v (listS ts (paramF ts v) [41] (wantS ts [40] (nameS ts (wantS ts [102, 117, 110, 99] s)).2)).2).2.pl < N := hN.back (good_block hg _) (adv_block hg ha _)
  have h4 := Nat.lt_of_le_of_lt (good_result hg _).le h5
  have h3 := Nat.lt_of_le_of_lt (good_list (good_param hg) _ _).le h4
  have h2 := Nat.lt_of_le_of_lt (good_want ts _ _).le h3
  have h1 := Nat.lt_of_le_of_lt (good_name ts _).le h2
  have hs := Nat.lt_of_le_of_lt (good_want ts _ _).le h1
  rw [← H.h s hs, H.want _ hs, H.name h1]
  simp only
  rw [H.want _ h2, list_sim H (param_sim H V hg) (good_param hg) _ _ h4]
  simp only
  rw [result_sim H V hg _ h5]
  simp only
  rw [block_sim H V hg ha _ hN]

end Go.Proofs.Ytgndnodahlabiaa

/- Trees (layer 10), in plain words: how great they are, which are alike, whether they are few; their texts. No program is named. -/
namespace Go.Proofs.Ytgndnodahlabiaa

mutual
def Nd.sz : Nd → Nat
  | .mk _ _ _ ks => szL ks + 1
def szL : List Nd → Nat
  | [] => 0
  | n :: r => n.sz + szL r
end
theorem szL_append : ∀ l m, szL (l ++ m) = szL l + szL m
  | [], m => by simp [szL]
  | n :: r, m => by rw [List.cons_append, szL, szL, szL_append r m]; omega
theorem sz_mem : ∀ {l : List Nd} {n : Nd}, n ∈ l → n.sz ≤ szL l
  | x :: r, n, h => by
    rw [szL]
    rcases List.mem_cons.1 h with rfl | h
    · omega
    · have := sz_mem h; omega
mutual
/-- Alike, wherever they stand. -/
def sameB : Nd → Nd → Bool
  | .mk k t _ ks, .mk k' t' _ ks' => decide (k = k') && (decide (t = t') && sameL ks ks')
def sameL : List Nd → List Nd → Bool
  | [], [] => true
  | n :: r, m :: q => sameB n m && sameL r q
  | _, _ => false
end
mutual
/-- How many nodes, up to most, and no deeper than deep. -/
def cntN (most : Nat) : Nat → Nd → Nat
  | d, .mk _ _ _ ks => cntL most d 1 ks
def cntL (most : Nat) : Nat → Nat → List Nd → Nat
  | _, k, [] => k
  | d, k, n :: r => if k ≤ most then (if d < 1 then most + 1 else cntL most d (k + cntN most (d - 1) n) r) else k
end
def few (n : Nd) : Bool := decide (cntN 400 60 n ≤ 400)
theorem cntL_ge (most : Nat) : ∀ (ks : List Nd) (d k : Nat), k ≤ most + 1 → k ≤ cntL most d k ks
  | [], _, k, _ => by rw [cntL]; exact Nat.le_refl _
  | n :: r, d, k, h => by
    rw [cntL]
    split
    · split
      · exact h
      · by_cases h2 : k + cntN most (d - 1) n ≤ most + 1
        · exact Nat.le_trans (Nat.le_add_right _ _) (cntL_ge most r d _ h2)
        · have : cntL most d (k + cntN most (d - 1) n) r = k + cntN most (d - 1) n := by
            cases r with
            | nil => rw [cntL]
            | cons m q => rw [cntL, if_neg (by omega)]
          omega
    · exact Nat.le_refl _
mutual
theorem cntN_sz (most : Nat) : ∀ (n : Nd) (d : Nat), cntN most d n ≤ most → cntN most d n = n.sz
  | .mk _ _ _ ks, d, h => by
    rw [cntN] at h ⊢
    rw [Nd.sz, cntL_sz most ks d 1 h]
    omega
theorem cntL_sz (most : Nat) : ∀ (ks : List Nd) (d k : Nat), cntL most d k ks ≤ most → cntL most d k ks = k + szL ks
  | [], _, k, _ => by rw [cntL, szL]; rfl
  | n :: r, d, k, h => by
    rw [cntL] at h ⊢
    split at h
    · rename_i h1
      rw [if_pos h1]
      split at h
      · omega
      · rename_i h2
        rw [if_neg h2]
        have h3 := cntL_sz most r d _ h
        have h4 : cntN most (d - 1) n ≤ most := by
          by_cases h5 : k + cntN most (d - 1) n ≤ most + 1
          · have := cntL_ge most r d _ h5; omega
          · have : cntL most d (k + cntN most (d - 1) n) r = k + cntN most (d - 1) n := by
              cases r with
              | nil => rw [cntL]
              | cons m q => rw [cntL, if_neg (by omega)]
            omega
        rw [h3, cntN_sz most n (d - 1) h4, szL]
        omega
    · rename_i h1
      omega
end
theorem few_sz {n : Nd} (h : few n = true) : n.sz ≤ 400 := by
  unfold few at h
  have h := of_decide_eq_true h
  rw [← cntN_sz 400 n 60 h]
  exact h
mutual
theorem cntN_le (most : Nat) : ∀ (n : Nd) (d : Nat), cntN most d n ≤ (d + 1) * (most + 1)
  | .mk _ _ _ ks, d => by
    rw [cntN]
    cases d with
    | zero => exact cntL_le0 most ks 1 (by omega)
    | succ d => 
      have := cntL_le most ks d 1 (by have := Nat.mul_le_mul (Nat.le_add_left 1 d) (Nat.le_refl (most + 1)); rw [Nat.add_mul (d + 1) 1]; omega)
      exact this
theorem cntL_le0 (most : Nat) : ∀ (ks : List Nd) (k : Nat), k ≤ most + 1 → cntL most 0 k ks ≤ (0 + 1) * (most + 1)
  | [], k, h => by rw [cntL]; omega
  | n :: r, k, h => by
    rw [cntL]
    split
    · rw [if_pos (by omega)]; omega
    · omega
theorem cntL_le (most : Nat) : ∀ (ks : List Nd) (d k : Nat), k ≤ (d + 1 + 1) * (most + 1) → cntL most (d + 1) k ks ≤ (d + 1 + 1) * (most + 1)
  | [], _, k, h => by rw [cntL]; exact h
  | n :: r, d, k, h => by
    rw [cntL]
    split
    · rename_i h1
      rw [if_neg (by omega)]
      have h2 := cntN_le most n d
      refine cntL_le most r d _ ?_
      rw [Nat.add_sub_cancel, Nat.add_mul (d + 1) 1]
      omega
    · exact h
end
mutual
/-- Nowhere too many kids for a machine's numbers. -/
def Nd.bnd : Nd → Prop
  | .mk _ _ _ ks => ks.length < 2 ^ 62 ∧ bndL ks
def bndL : List Nd → Prop
  | [] => True
  | n :: r => n.bnd ∧ bndL r
end
theorem bndL_mem : ∀ {l : List Nd}, bndL l → ∀ n, n ∈ l → n.bnd
  | x :: r, h, n, hn => by
    rw [bndL] at h
    rcases List.mem_cons.1 hn with rfl | hn
    · exact h.1
    · exact bndL_mem h.2 n hn
theorem szL_len : ∀ l : List Nd, l.length ≤ szL l
  | [] => Nat.zero_le _
  | n :: r => by
    rw [szL, List.length_cons]
    have := szL_len r
    have : 1 ≤ n.sz := by cases n; rw [Nd.sz]; omega
    omega
mutual
theorem sz_bnd : ∀ (n : Nd), n.sz < 2 ^ 62 → n.bnd
  | .mk _ _ _ ks, h => by
    rw [Nd.sz] at h
    rw [Nd.bnd]
    exact ⟨by have := szL_len ks; omega, szL_bnd ks (by omega)⟩
theorem szL_bnd : ∀ (l : List Nd), szL l < 2 ^ 62 → bndL l
  | [], _ => by rw [bndL]; trivial
  | n :: r, h => by
    rw [szL] at h
    rw [bndL]
    exact ⟨sz_bnd n (by omega), szL_bnd r (by omega)⟩
end

end Go.Proofs.Ytgndnodahlabiaa

/- Programs, one behind the other (layer 10): where an error is, and what is parsed. No program is named. -/
namespace Go.Proofs.Ytgndnodahlabiaa

theorem sim_pre (l m : List Tok) : Sim l (l ++ m) l.length 0 where
  h := fun s hs => by
    obtain ⟨p, e⟩ := s
    show nextT l ⟨p, e⟩ = nextT (l ++ m) ⟨0 + p, e⟩
    have hs : p < l.length := hs
    rw [Nat.zero_add]
    unfold nextT
    by_cases he : e ≠ 0
    · rw [if_pos (.inl he), if_pos (.inl he)]
    · rw [if_neg (by rintro (h | h); exact he h; exact absurd h (Nat.ne_of_lt hs)), if_neg (by rintro (h | h); exact he h; rw [List.length_append] at h; have h : p = _ := h; omega)]
      rw [List.getD_eq_getElem?_getD, List.getD_eq_getElem?_getD, List.getElem?_append_left hs]
  b := Nat.le_succ _
  d := by rw [List.length_append]; omega
theorem sim_post (l m : List Tok) : Sim m (l ++ m) (m.length + 1) l.length where
  h := fun s hs => by
    obtain ⟨p, e⟩ := s
    show nextT m ⟨p, e⟩ = nextT (l ++ m) ⟨l.length + p, e⟩
    have hs : p < m.length + 1 := hs
    unfold nextT
    by_cases he : e ≠ 0
    · rw [if_pos (.inl he), if_pos (.inl he)]
    · by_cases hp : p = m.length
      · subst hp
        rw [if_pos (.inr rfl), if_pos (.inr (by rw [List.length_append]))]
      · rw [if_neg (by rintro (h | h); exact he h; exact hp h), if_neg (by rintro (h | h); exact he h; rw [List.length_append] at h; have h : l.length + p = _ := h; omega)]
        rw [List.getD_eq_getElem?_getD, List.getD_eq_getElem?_getD, List.getElem?_append_right (Nat.le_add_right _ _), Nat.add_sub_cancel_left]
  b := Nat.le_refl _
  d := by rw [List.length_append]; omega
theorem good_loopG {ts : List Tok} {v : Lv} (hg : GoodV ts v) : ∀ n l s, Good ts s (loopG ts v n l s).2
  | 0, _, s => Good.refl _ _
  | n + 1, l, s => by
    unfold loopG
    split
    · exact (good_func hg s).trans (good_loopG hg n _ _)
    · exact Good.refl _ _
theorem loopG_er {ts : List Tok} {v : Lv} (n : Nat) (l : List Nd) (s : St) (h : s.er ≠ 0) : loopG ts v n l s = (l, s) := by
  cases n with
  | zero => rw [loopG]
  | succ n => rw [loopG, if_neg (fun c => h c.1)]
theorem loopG_end {ts : List Tok} {v : Lv} (n : Nat) (l : List Nd) (s : St) (h : ¬ s.pl < ts.length) : loopG ts v n l s = (l, s) := by
  cases n with
  | zero => rw [loopG]
  | succ n => rw [loopG, if_neg (fun c => h c.2)]
theorem mu_func {ts : List Tok} {v : Lv} (hg : GoodV ts v) {s : St} (he : s.er = 0) (hb : s.pl ≤ ts.length) : mu ts (funcF ts v s).2 < mu ts s := mu_lt (good_func hg s) (advP_func hg s) he hb
theorem loopG_last {ts : List Tok} {v : Lv} (hg : GoodV ts v) : ∀ (n : Nat) (l : List Nd) (s : St), mu ts s < n → s.pl ≤ ts.length → (loopG ts v n l s).2.er = 0 → (loopG ts v n l s).2.pl = ts.length
  | 0, _, _, h, _, _ => by omega
  | n + 1, l, s, h, hb, he => by
    have hs := (good_loopG hg (n + 1) l s).on he
    by_cases hp : s.pl < ts.length
    · rw [loopG, if_pos ⟨hs, hp⟩] at he ⊢
      exact loopG_last hg n _ _ (by have := mu_func hg hs hb; omega) ((good_func hg s).bd hb) he
    · rw [loopG_end _ _ _ hp]
      show s.pl = _
      omega
theorem loopG_step {ts : List Tok} {v : Lv} (n : Nat) (l : List Nd) (s : St) (h : s.er = 0 ∧ s.pl < ts.length) : loopG ts v (n + 1) l s = loopG ts v n (l ++ [(funcF ts v s).1]) (funcF ts v s).2 := by rw [loopG, if_pos h]
theorem sh0 (x : St) : sh 0 x = x := by obtain ⟨p, q⟩ := x; simp [sh]
/-- The first of two: its error, or what is behind it. -/
theorem loopG_pre {l l' : List Tok} (hl : l.length ≤ l'.length) (H : Sim l l' l.length 0) {v v' : Lv} (V : SimV l.length 0 v v') (hg : GoodV l v) (ha : AdvV v) (hg' : GoodV l' v') : ∀ (n n' : Nat) (k : List Nd) (s : St), mu l s < n → mu l' s < n' → s.pl ≤ l.length →
    ((loopG l v n k s).2.er ≠ 0 → (loopG l v n k s).2.pl < l.length → (loopG l' v' n' k s).2 = (loopG l v n k s).2) ∧
    ((loopG l v n k s).2.er = 0 → ∃ n'', mu l' (loopG l v n k s).2 < n'' ∧ loopG l' v' n' k s = loopG l' v' n'' (loopG l v n k s).1 (loopG l v n k s).2) := by
  intro n
  induction n with
  | zero => intro n' k s h; omega
  | succ n ih =>
    intro n' k s hn hn' hb
    by_cases hs : s.er = 0
    · by_cases hp : s.pl < l.length
      · obtain ⟨m', rfl⟩ : ∃ m', n' = m' + 1 := ⟨n' - 1, by omega⟩
        rw [loopG_step (v := v) n k s ⟨hs, hp⟩, loopG_step (v := v') m' k s ⟨hs, by omega⟩]
        have h1 := mu_func hg hs hb
        have h2 : mu l' (funcF l' v' s).2 < mu l' s := mu_func hg' hs (by omega)
        have hle := (good_loopG hg n (k ++ [(funcF l v s).1]) (funcF l v s).2).le
        have hon := (good_loopG hg n (k ++ [(funcF l v s).1]) (funcF l v s).2).on
        have hbd := (good_func hg s).bd hb
        have same : Wit l.length (funcF l v s).2 → funcF l' v' s = funcF l v s := fun w => by
          have e := func_sim H V hg ha s w
          generalize funcF l v s = a at e ⊢
          rw [sh0 s, sh0 a.2] at e
          exact e
        constructor
        · intro a b
          have e := same (.inl (Nat.lt_of_le_of_lt hle b))
          rw [e] at h2 ⊢
          exact (ih m' _ _ (by omega) (by omega) hbd).1 a b
        · intro a
          have e := same (.inr ⟨hon a, hbd⟩)
          rw [e] at h2 ⊢
          exact (ih m' _ _ (by omega) (by omega) hbd).2 a
      · rw [loopG_end (v := v) _ _ _ hp]
        exact ⟨fun a => absurd hs a, fun _ => ⟨n', hn', rfl⟩⟩
    · rw [loopG_er (v := v) _ _ _ hs, loopG_er (v := v') _ _ _ hs]
      exact ⟨fun _ _ => rfl, fun a => absurd a hs⟩
/-- The second of two. -/
theorem loopG_post {m l' : List Tok} {d : Nat} (hl : l'.length = d + m.length) (H : Sim m l' (m.length + 1) d) {v v' : Lv} (V : SimV (m.length + 1) d v v') (hg : GoodV m v) (ha : AdvV v) (hg' : GoodV l' v') : ∀ (n n' : Nat) (k k' : List Nd) (s : St), mu m s < n → mu l' (sh d s) < n' → s.pl ≤ m.length →
    (loopG l' v' n' k' (sh d s)).2 = sh d (loopG m v n k s).2 ∧
    ∃ x, (loopG m v n k s).1 = k ++ x ∧ (loopG l' v' n' k' (sh d s)).1 = k' ++ x := by
  intro n
  induction n with
  | zero => intro n' k k' s h; omega
  | succ n ih =>
    intro n' k k' s hn hn' hb
    by_cases hs : s.er = 0
    · by_cases hp : s.pl < m.length
      · obtain ⟨m', rfl⟩ : ∃ m', n' = m' + 1 := ⟨n' - 1, by omega⟩
        have hs' : (sh d s).er = 0 := hs
        have hp' : (sh d s).pl < l'.length := by show d + s.pl < _; omega
        have h1 := mu_func hg hs hb
        have h2 : mu l' (funcF l' v' (sh d s)).2 < mu l' (sh d s) := mu_func hg' hs' (Nat.le_of_lt hp')
        have hbd := (good_func hg s).bd hb
        have e := func_sim H V hg ha s (.inl (Nat.lt_succ_of_le hbd))
        rw [loopG_step (v := v) n k s ⟨hs, hp⟩, loopG_step (v := v') m' k' (sh d s) ⟨hs', hp'⟩]
        rw [e] at h2 ⊢
        simp only at h2 ⊢
        have := ih m' (k ++ [(funcF m v s).1]) (k' ++ [(funcF m v s).1]) _ (by omega) (by omega) hbd
        refine ⟨this.1, ?_⟩
        obtain ⟨x, h3, h4⟩ := this.2
        exact ⟨_ :: x, by rw [h3, List.append_assoc]; rfl, by rw [h4, List.append_assoc]; rfl⟩
      · rw [loopG_end (v := v) _ _ _ hp, loopG_end (v := v') _ _ _ (show ¬ (sh d s).pl < l'.length by show ¬ d + s.pl < _; omega)]
        exact ⟨rfl, [], by simp, by simp⟩
    · rw [loopG_er (v := v) _ _ _ hs, loopG_er (v := v') _ _ _ (show (sh d s).er ≠ 0 from hs)]
      exact ⟨rfl, [], by simp, by simp⟩
theorem mu0 (ts : List Tok) : mu ts ⟨0, 0⟩ < ts.length + 2 := by show ts.length - 0 + 1 < _; omega
/-- Fuel is enough, and more is no more. -/
theorem loopG_fuel {ts : List Tok} {v : Lv} (hg : GoodV ts v) : ∀ (n n' : Nat) (k : List Nd) (s : St), left ts s < n → left ts s < n' → s.pl ≤ ts.length → loopG ts v n k s = loopG ts v n' k s
  | 0, _, _, _, h, _, _ => by omega
  | _ + 1, 0, _, _, _, h, _ => by omega
  | n + 1, n' + 1, k, s, h, h', hb => by
    rw [loopG, loopG]
    by_cases hc : s.er = 0 ∧ s.pl < ts.length
    · rw [if_pos hc, if_pos hc]
      have h1 := mu_func hg hc.1 hb
      have h2 := (good_func hg s).le
      have h3 := (good_func hg s).bd hb
      by_cases he : (funcF ts v s).2.er = 0
      · have h4 := advP_func hg s he
        exact loopG_fuel hg n n' _ _ (by unfold left at *; omega) (by unfold left at *; omega) h3
      · rw [loopG_er _ _ _ he, loopG_er _ _ _ he]
    · rw [if_neg hc, if_neg hc]
theorem progS_eq (ts : List Tok) : progS ts = loopG ts (lv ts 100) (ts.length + 2) [] ⟨0, 0⟩ :=
  loopG_fuel (good_lv ts 100) _ _ _ _ (by show ts.length - 0 < _; omega) (by show ts.length - 0 < _; omega) (Nat.zero_le _)
theorem good_prog (ts : List Tok) : Good ts ⟨0, 0⟩ (progS ts).2 := good_loopG (good_lv ts 100) _ _ _
theorem prog_last {ts : List Tok} (h : (progS ts).2.er = 0) : (progS ts).2.pl = ts.length := by
  rw [progS_eq] at h ⊢
  exact loopG_last (good_lv ts 100) _ _ _ (mu0 ts) (Nat.zero_le _) h
theorem prog_two (l m : List Tok) :
    ((progS l).2.er ≠ 0 → (progS l).2.pl < l.length → (progS (l ++ m)).2 = (progS l).2) ∧
    ((progS l).2.er = 0 → (progS (l ++ m)).2 = sh l.length (progS m).2 ∧ (progS (l ++ m)).1 = (progS l).1 ++ (progS m).1) := by
  have h := loopG_pre (by rw [List.length_append]; omega) (sim_pre l m) (lv_sim (sim_pre l m) 100) (good_lv l 100) (adv_lv l 100) (good_lv (l ++ m) 100) (l.length + 2) ((l ++ m).length + 2) [] ⟨0, 0⟩ (mu0 l) (mu0 (l ++ m)) (Nat.zero_le _)
  rw [← progS_eq, ← progS_eq] at h
  refine ⟨h.1, fun he => ?_⟩
  obtain ⟨n'', h1, h2⟩ := h.2 he
  have hst : (progS l).2 = sh l.length ⟨0, 0⟩ := by
    have a := prog_last he
    have e : (progS l).2 = ⟨(progS l).2.pl, (progS l).2.er⟩ := rfl
    rw [e, a, he]
    rfl
  rw [hst] at h1
  have h3 := loopG_post (List.length_append) (sim_post l m) (lv_sim (sim_post l m) 100) (good_lv m 100) (adv_lv m 100) (good_lv (l ++ m) 100) (m.length + 2) n'' [] (progS l).1 ⟨0, 0⟩ (mu0 m) h1 (Nat.zero_le _)
  rw [h2, hst]
  rw [← progS_eq] at h3
  refine ⟨h3.1, ?_⟩
  obtain ⟨x, h4, h5⟩ := h3.2
  rw [h5, h4, List.nil_append]

end Go.Proofs.Ytgndnodahlabiaa

/- How great what is parsed is (layer 10): no greater than its tokens are many. No program is named. -/
namespace Go.Proofs.Ytgndnodahlabiaa

def SzP (w : Pa) : Prop := ∀ s, (w s).2.er = 0 → (w s).1.sz + s.pl ≤ (w s).2.pl
theorem sz_mk (k : Int) (t : List UInt8) (a : Int) (ks : List Nd) : (Nd.mk k t a ks).sz = szL ks + 1 := by rw [Nd.sz]
theorem szL1 (x : Nd) : szL [x] = x.sz := by rw [szL, szL]; rfl
theorem szL2 (x y : Nd) : szL [x, y] = x.sz + y.sz := by rw [szL, szL1]
theorem szL3 (x y z : Nd) : szL [x, y, z] = x.sz + (y.sz + z.sz) := by rw [szL, szL2]
theorem szL0 : szL [] = 0 := by rw [szL]
theorem fail_er {e : Nat} (he : e ≠ 0) (s : St) : ¬ (failS e s).er = 0 := fun h => by
  unfold failS at h
  split at h
  · exact he h
  · rename_i h2; exact h2 h
theorem want_pl {ts : List Tok} {q : List UInt8} {s : St} (h : (wantS ts q s).er = 0) : (wantS ts q s).pl = s.pl + 1 := by
  unfold wantS at h ⊢
  split
  · rfl
  · rename_i c; rw [if_neg c] at h; exact absurd h (fail_er (by decide) s)
theorem name_pl {ts : List Tok} {s : St} (h : (nameS ts s).2.er = 0) : (nameS ts s).2.pl = s.pl + 1 := by
  unfold nameS at h ⊢
  split
  · rfl
  · rename_i c; rw [if_neg c] at h; exact absurd h (fail_er (by decide) s)
theorem num_pl {ts : List Tok} {s : St} (h : (numS ts s).2.er = 0) : (numS ts s).2.pl = s.pl + 1 := by
  unfold numS at h ⊢
  split
  · rfl
  · rename_i c; rw [if_neg c] at h; exact absurd h (fail_er (by decide) s)
theorem adv_pl (s : St) : (adv s).pl = s.pl + 1 := rfl
theorem more_sz {ts : List Tok} {w : Pa} (hg : GoodP ts w) (hz : SzP w) : ∀ n l s, (moreS ts w n l s).2.er = 0 → szL (moreS ts w n l s).1 + s.pl ≤ szL l + (moreS ts w n l s).2.pl
  | 0, l, s, _ => by rw [moreS]; exact Nat.le_refl _
  | n + 1, l, s, h => by
    rw [moreS] at h ⊢
    split
    · rename_i c
      rw [if_pos c] at h
      have h1 := more_sz hg hz n _ _ h
      have h2 := hz (adv s) ((good_more hg n _ _).on h)
      rw [szL_append, szL1] at h1
      rw [adv_pl] at h2
      omega
    · exact Nat.le_refl _
theorem some_sz {ts : List Tok} {w : Pa} (hg : GoodP ts w) (hz : SzP w) (q : List UInt8) (s : St) (h : (someS ts w q s).2.er = 0) : szL (someS ts w q s).1 + s.pl + 1 ≤ (someS ts w q s).2.pl := by
  unfold someS at h ⊢
  simp only at h ⊢
  rw [want_pl h]
  have h1 := (good_want ts q _).on h
  have h2 := more_sz hg hz _ _ _ h1
  have h3 := hz s ((good_more hg _ _ _).on h1)
  rw [szL1] at h2
  omega
theorem list_sz {ts : List Tok} {w : Pa} (hg : GoodP ts w) (hz : SzP w) (q : List UInt8) (s : St) (h : (listS ts w q s).2.er = 0) : szL (listS ts w q s).1 + s.pl + 1 ≤ (listS ts w q s).2.pl := by
  unfold listS at h ⊢
  split
  · show szL [] + s.pl + 1 ≤ s.pl + 1
    rw [szL]; omega
  · rename_i c
    rw [if_neg c] at h
    exact some_sz hg hz q s h
theorem loopJ_sz {ts : List Tok} {w : Pa} (hg : GoodP ts w) (hz : SzP w) (sg : List (List UInt8)) : ∀ n x s, (loopJ ts w sg n x s).2.er = 0 → (loopJ ts w sg n x s).1.sz + s.pl ≤ x.sz + (loopJ ts w sg n x s).2.pl
  | 0, _, _, _ => by rw [loopJ]; exact Nat.le_refl _
  | n + 1, x, s, h => by
    rw [loopJ] at h ⊢
    split
    · rename_i c
      rw [if_pos c] at h
      have h1 := loopJ_sz hg hz sg n _ _ h
      have h2 := hz (adv s) ((good_loopJ hg sg n _ _).on h)
      rw [sz_mk, szL2] at h1
      rw [adv_pl] at h2
      omega
    · exact Nat.le_refl _
theorem join_sz {ts : List Tok} {w : Pa} (hg : GoodP ts w) (hz : SzP w) (sg : List (List UInt8)) : SzP (joinS ts w sg) := fun s h => by
  unfold joinS at h ⊢
  have h1 := loopJ_sz hg hz sg _ _ _ h
  have h2 := hz s ((good_loopJ hg sg _ _ _).on h)
  omega
structure SzV (v : Lv) : Prop where
  t : SzP v.t
  e : SzP v.e
  o : SzP v.o
  s : SzP v.s
theorem typ_sz {ts : List Tok} {v : Lv} (hg : GoodV ts v) (hz : SzV v) : SzP (typF ts v) := fun s h => by
  unfold typF at h ⊢
  simp only at h ⊢
  split
  · rw [sz_mk, szL0, adv_pl]; omega
  · rename_i c1
    rw [if_neg c1] at h
    split
    · rename_i c2
      rw [if_pos c2] at h
      have h1 := hz.t _ h
      simp only
      rw [adv_pl] at h1
      rw [sz_mk, szL1]; omega
    · rename_i c2
      rw [if_neg c2] at h
      split
      · rename_i c3
        rw [if_pos c3] at h
        have h1 := hz.t _ h
        have h2 := (good_want ts [93] (numS ts (adv s)).2).le
        have h3 := (good_num ts (adv s)).le
        simp only
        rw [adv_pl] at h3
        rw [sz_mk, szL1]; omega
      · rename_i c3
        rw [if_neg c3] at h
        split
        · rename_i c4
          rw [if_pos c4] at h
          have h1 := some_sz hg.t hz.t _ _ h
          simp only
          rw [adv_pl] at h1
          rw [sz_mk]; omega
        · rename_i c4
          rw [if_neg c4] at h
          exact absurd h (fail_er (by decide) s)
theorem prim_sz {ts : List Tok} {v : Lv} (hg : GoodV ts v) (hz : SzV v) : SzP (primF ts v) := fun s h => by
  unfold primF at h ⊢
  simp only at h ⊢
  split
  · rw [sz_mk, szL0, adv_pl]; omega
  · rename_i c1
    rw [if_neg c1] at h
    split
    · rename_i c2
      rw [if_pos c2] at h
      split
      · rename_i c3
        rw [if_pos c3] at h
        have h1 := list_sz hg.e hz.e _ _ h
        simp only
        rw [adv_pl, adv_pl] at h1
        rw [sz_mk]; omega
      · rw [sz_mk, szL0, adv_pl]; omega
    · rename_i c2
      rw [if_neg c2] at h
      split
      · rename_i c3
        rw [if_pos c3] at h
        have h0 := (good_want ts [41] _).on h
        have h1 := hz.t _ h0
        have h2 := want_pl h
        have h3 := (good_want ts [40] (adv s)).le
        simp only
        rw [adv_pl] at h3
        rw [sz_mk, szL1, h2]; omega
      · rename_i c3
        rw [if_neg c3] at h
        split
        · rw [sz_mk, szL0, adv_pl]; omega
        · rename_i c4
          rw [if_neg c4] at h
          split
          · rename_i c5
            rw [if_pos c5] at h
            have h0 := (good_want ts [41] _).on h
            have h1 := hz.e _ h0
            have h2 := want_pl h
            simp only
            rw [adv_pl] at h1
            rw [h2]; omega
          · rename_i c5
            rw [if_neg c5] at h
            exact absurd h (fail_er (by decide) s)
theorem loopP_sz {ts : List Tok} {v : Lv} (hg : GoodV ts v) (hz : SzV v) : ∀ n x s, (loopP ts v n x s).2.er = 0 → (loopP ts v n x s).1.sz + s.pl ≤ x.sz + (loopP ts v n x s).2.pl
  | 0, _, _, _ => by rw [loopP]; exact Nat.le_refl _
  | n + 1, x, s, h => by
    rw [loopP] at h ⊢
    split
    · rename_i c
      rw [if_pos c] at h
      have h1 := loopP_sz hg hz n _ _ h
      have h0 := (good_loopP hg n _ _).on h
      have h2 := hz.e (adv s) ((good_want ts [93] _).on h0)
      have h3 := want_pl h0
      rw [sz_mk, szL2] at h1
      rw [adv_pl] at h2
      omega
    · rename_i c
      rw [if_neg c] at h
      split
      · rename_i c2
        rw [if_pos c2] at h
        have h1 := loopP_sz hg hz n _ _ h
        have h0 := (good_loopP hg n _ _).on h
        have h3 := num_pl h0
        rw [sz_mk, szL1] at h1
        rw [adv_pl] at h3
        omega
      · exact Nat.le_refl _
theorem part_sz {ts : List Tok} {v : Lv} (hg : GoodV ts v) (hz : SzV v) : SzP (partF ts v) := fun s h => by
  unfold partF at h ⊢
  have h1 := loopP_sz hg hz _ _ _ h
  have h2 := prim_sz hg hz s ((good_loopP hg _ _ _).on h)
  omega
theorem oper_sz {ts : List Tok} {v : Lv} (hg : GoodV ts v) (hz : SzV v) : SzP (operF ts v) := fun s h => by
  unfold operF at h ⊢
  simp only at h ⊢
  split
  · rename_i c1
    rw [if_pos c1] at h
    have h1 := hz.o _ h
    simp only
    rw [adv_pl] at h1
    rw [sz_mk, szL1]; omega
  · rename_i c1
    rw [if_neg c1] at h
    split
    · rename_i c2
      rw [if_pos c2] at h
      have h1 := hz.o _ h
      simp only
      rw [adv_pl] at h1
      rw [sz_mk, szL1]; omega
    · rename_i c2
      rw [if_neg c2] at h
      split
      · rename_i c3
        rw [if_pos c3] at h
        have h1 := hz.o _ h
        simp only
        rw [adv_pl] at h1
        rw [sz_mk, szL1]; omega
      · rename_i c3
        rw [if_neg c3] at h
        exact part_sz hg hz s h
theorem expr_sz {ts : List Tok} {v : Lv} (hg : GoodV ts v) (hz : SzV v) : SzP (exprF ts v) :=
  join_sz (good_sum hg) (join_sz (good_prod hg) (join_sz (good_oper hg) (oper_sz hg hz) _) _) _
theorem loopB_sz {ts : List Tok} {v : Lv} (hg : GoodV ts v) (hz : SzV v) : ∀ n l s, (loopB ts v n l s).2.er = 0 → szL (loopB ts v n l s).1 + s.pl ≤ szL l + (loopB ts v n l s).2.pl
  | 0, _, _, _ => by rw [loopB]; exact Nat.le_refl _
  | n + 1, l, s, h => by
    rw [loopB] at h ⊢
    split
    · rename_i c
      rw [if_pos c] at h
      split
      · show szL l + s.pl ≤ szL l + (s.pl + 1)
        omega
      · rename_i c2
        rw [if_neg c2] at h
        have h1 := loopB_sz hg hz n _ _ h
        have h2 := hz.s _ ((good_loopB hg n _ _).on h)
        rw [szL_append, szL1] at h1
        omega
    · exact Nat.le_refl _
theorem block_sz {ts : List Tok} {v : Lv} (hg : GoodV ts v) (hz : SzV v) : SzP (blockF ts v) := fun s h => by
  unfold blockF at h ⊢
  simp only at h ⊢
  have h1 := loopB_sz hg hz _ _ _ h
  have h2 := want_pl ((good_loopB hg _ _ _).on h)
  rw [szL0] at h1
  rw [sz_mk]; omega
theorem line_sz {ts : List Tok} {v : Lv} (hg : GoodV ts v) (hz : SzV v) (s : St) (h : (lineF ts v s).2.er = 0) : (lineF ts v s).1.sz + s.pl ≤ (lineF ts v s).2.pl + 1 := by
  unfold lineF at h ⊢
  simp only at h ⊢
  split
  · rename_i c1
    rw [if_pos c1] at h
    have h1 := hz.t _ h
    have h2 := (good_name ts (adv s)).le
    simp only
    rw [adv_pl] at h2
    rw [sz_mk, szL1]; omega
  · rename_i c1
    rw [if_neg c1] at h
    split
    · rename_i c2
      rw [if_pos c2] at h
      split
      · rw [sz_mk, szL0, adv_pl]; omega
      · rename_i c3
        rw [if_neg c3] at h
        have h1 := hz.e _ h
        simp only
        rw [adv_pl] at h1
        rw [sz_mk, szL1]; omega
    · rename_i c2
      rw [if_neg c2] at h
      split
      · rename_i c3
        rw [if_pos c3] at h
        have h1 := hz.e _ h
        simp only
        rw [adv_pl] at h1
        rw [sz_mk, szL1]; omega
      · rename_i c3
        rw [if_neg c3] at h
        split
        · rename_i c4
          rw [if_pos c4] at h
          have h1 := hz.e _ h
          simp only
          rw [sz_mk, szL1]; omega
        · rename_i c4
          rw [if_neg c4] at h
          have h1 := hz.e _ h
          have h0 := (hg.e _).on h
          have h2 := want_pl h0
          have h3 := hz.e _ ((good_want ts [61] _).on h0)
          simp only
          rw [sz_mk, szL2]; omega
theorem stmt_sz {ts : List Tok} {v : Lv} (hg : GoodV ts v) (hz : SzV v) : SzP (stmtF ts v) := fun s h => by
  unfold stmtF at h ⊢
  simp only at h ⊢
  split
  · rename_i c1
    rw [if_pos c1] at h
    split
    · rename_i c2
      rw [if_pos c2] at h
      have h1 := block_sz hg hz _ h
      have h0 := (good_block hg _).on h
      have h2 := block_sz hg hz (v.e (adv s)).2 h0
      have h3 := hz.e _ ((good_block hg _).on h0)
      simp only
      rw [adv_pl] at h3 h1
      rw [sz_mk, szL3]; omega
    · rename_i c2
      rw [if_neg c2] at h
      have h2 := block_sz hg hz (v.e (adv s)).2 h
      have h3 := hz.e _ ((good_block hg _).on h)
      simp only
      rw [adv_pl] at h3
      rw [sz_mk, szL2]; omega
  · rename_i c1
    rw [if_neg c1] at h
    split
    · rename_i c2
      rw [if_pos c2] at h
      have h2 := block_sz hg hz (v.e (adv s)).2 h
      have h3 := hz.e _ ((good_block hg _).on h)
      simp only
      rw [adv_pl] at h3
      rw [sz_mk, szL2]; omega
    · rename_i c2
      rw [if_neg c2] at h
      have h1 := want_pl h
      have h2 := line_sz hg hz s ((good_want ts [59] _).on h)
      simp only
      rw [h1]; omega
theorem deep_sz : SzP tooDeep := fun s h => absurd h (fail_er (by decide) s)
theorem lv_sz (ts : List Tok) : ∀ r, SzV (lv ts r)
  | 0 => ⟨deep_sz, deep_sz, deep_sz, deep_sz⟩
  | r + 1 => ⟨typ_sz (good_lv ts r) (lv_sz ts r), expr_sz (good_lv ts r) (lv_sz ts r), oper_sz (good_lv ts r) (lv_sz ts r), stmt_sz (good_lv ts r) (lv_sz ts r)⟩
theorem param_sz {ts : List Tok} {v : Lv} (hg : GoodV ts v) (hz : SzV v) : SzP (paramF ts v) := fun s h => by
  unfold paramF at h ⊢
  simp only at h ⊢
  have h1 := hz.t _ h
  have h3 := name_pl ((hg.t _).on h)
  rw [sz_mk, szL1]; omega
theorem func_sz {ts : List Tok} {v : Lv} (hg : GoodV ts v) (hz : SzV v) : SzP (funcF ts v) := fun s h => by
  unfold funcF at h ⊢
  simp only at h ⊢
  have h5 := block_sz hg hz _ h
  have e4 := (good_block hg _).on h
  have h4 : (resultF ts v (listS ts (paramF ts v) [41] (wantS ts [40] (nameS ts (wantS ts [102, 117, 110, 99] s)).2)).2).1.sz + (listS ts (paramF ts v) [41] (wantS ts [40] (nameS ts (wantS ts [102, 117, 110, 99] s)).2)).2.pl ≤ (resultF ts v (listS ts (paramF ts v) [41] (wantS ts [40] (nameS ts (wantS ts [102, 117, 110, 99] s)).2)).2).2.pl + 1 := by
    unfold resultF at e4 ⊢
    split
    · simp only; rw [sz_mk, szL0]; omega
    · rename_i c
      rw [if_neg c] at e4
      have := hz.t _ e4
      omega
  have e3 := (good_result hg _).on e4
  have h3 := list_sz (good_param hg) (param_sz hg hz) _ _ e3
  have e2 := (good_list (good_param hg) _ _).on e3
  have h2 := want_pl e2
  have e1 := (good_want ts _ _).on e2
  have h1 := name_pl e1
  have e0 := (good_name ts _).on e1
  have h0 := want_pl e0
  rw [sz_mk, szL_append, szL2]
  omega
theorem loopG_sz {ts : List Tok} {v : Lv} (hg : GoodV ts v) (hz : SzV v) : ∀ n l s, (loopG ts v n l s).2.er = 0 → szL (loopG ts v n l s).1 + s.pl ≤ szL l + (loopG ts v n l s).2.pl
  | 0, _, _, _ => by rw [loopG]; exact Nat.le_refl _
  | n + 1, l, s, h => by
    rw [loopG] at h ⊢
    split
    · rename_i c
      rw [if_pos c] at h
      have h1 := loopG_sz hg hz n _ _ h
      have h2 := func_sz hg hz _ ((good_loopG hg n _ _).on h)
      rw [szL_append, szL1] at h1
      omega
    · exact Nat.le_refl _
theorem prog_sz {ts : List Tok} (h : (progS ts).2.er = 0) : szL (progS ts).1 ≤ ts.length := by
  have h1 := loopG_sz (good_lv ts 100) (lv_sz ts 100) _ _ _ h
  have h2 := prog_last h
  have h1 : szL (progS ts).1 + 0 ≤ szL [] + (progS ts).2.pl := h1
  rw [szL0, h2] at h1
  omega
/-- What the law asks. -/
theorem places_is (l m : List Tok) :
    (parseS l).2.1 ≤ l.length ∧
    ((parseS l).2.2 ≠ 0 → (parseS l).2.1 = l.length ∨ (parseS (l ++ m)).2 = (parseS l).2) ∧
    ((parseS l).2.2 = 0 → (parseS l).2.1 = l.length ∧ (parseS l).1.sz ≤ l.length + 1 ∧ (parseS (l ++ m)).2.2 = (parseS m).2.2 ∧ (parseS (l ++ m)).2.1 = l.length + (parseS m).2.1 ∧
      ((parseS m).2.2 = 0 → (parseS (l ++ m)).1.sz + 1 = (parseS l).1.sz + (parseS m).1.sz)) := by
  have hb := (good_prog l).bd (Nat.zero_le _)
  have h2 := prog_two l m
  have k1 : ∀ ts, (parseS ts).2.1 = (progS ts).2.pl := fun ts => by unfold parseS; split <;> rfl
  have k2 : ∀ ts, (parseS ts).2.2 = (progS ts).2.er := fun ts => by
    unfold parseS; split
    · rename_i c; exact c.symm
    · rfl
  have k3 : ∀ ts, (progS ts).2.er = 0 → (parseS ts).1.sz = szL (progS ts).1 + 1 := fun ts h => by unfold parseS; rw [if_pos h, sz_mk]
  refine ⟨by rw [k1]; exact hb, fun h => ?_, fun h => ?_⟩
  · rw [k2] at h
    rw [k1]
    by_cases hp : (progS l).2.pl = l.length
    · exact .inl hp
    · have := h2.1 h (by omega)
      refine .inr (Prod.ext ?_ ?_)
      · rw [k1, k1, this]
      · rw [k2, k2, this]
  · rw [k2] at h
    have ⟨a, b⟩ := h2.2 h
    refine ⟨by rw [k1]; exact prog_last h, ?_, ?_, ?_, fun h' => ?_⟩
    · rw [k3 _ h]; have := prog_sz h; omega
    · rw [k2, k2, a]
    · rw [k1, k1, a]
    · rw [k2] at h'
      rw [k3 _ h, k3 _ h', k3 (l ++ m) (by rw [a]; exact h'), b, szL_append]
      omega

end Go.Proofs.Ytgndnodahlabiaa

/- The texts of trees (layer 10), in plain words; what a writer makes of them. No program is named. -/
namespace Go.Proofs.Ytgndnodahlabiaa

/-- A text and another one, a blank between, if neither is empty. -/
def wth (a b : List UInt8) : List UInt8 := if a = [] ∨ b = [] then a ++ b else a ++ 32 :: b
def wcat : List (List UInt8) → List UInt8
  | [] => []
  | p :: r => wth p (wcat r)
theorem wth_nil (a : List UInt8) : wth a [] = a := by unfold wth; rw [if_pos (.inr rfl), List.append_nil]
theorem nil_wth (a : List UInt8) : wth [] a = a := by unfold wth; rw [if_pos (.inl rfl), List.nil_append]
theorem wth_ne {a b : List UInt8} (ha : a ≠ []) (hb : b ≠ []) : wth a b = a ++ 32 :: b := by unfold wth; rw [if_neg (by simp [ha, hb])]
theorem wth_assoc (a b c : List UInt8) : wth (wth a b) c = wth a (wth b c) := by
  by_cases ha : a = []
  · subst ha; rw [nil_wth, nil_wth]
  by_cases hb : b = []
  · subst hb; rw [nil_wth, wth_nil]
  by_cases hc : c = []
  · subst hc; rw [wth_nil, wth_nil]
  rw [wth_ne ha hb, wth_ne hb hc, wth_ne (by simp) hc, wth_ne ha (by simp)]
  simp
theorem wcat_append : ∀ l m, wcat (l ++ m) = wth (wcat l) (wcat m)
  | [], m => by rw [List.nil_append, wcat, nil_wth]
  | p :: r, m => by rw [List.cons_append, wcat, wcat, wcat_append r m, wth_assoc]
theorem wcat_one (p : List UInt8) : wcat [p] = p := by rw [wcat, wcat, wth_nil]
theorem wth_len (a b : List UInt8) : (wth a b).length ≤ a.length + b.length + 1 := by
  unfold wth
  split <;> simp <;> omega

/-- What a writer holds: the text, and whether what comes next takes a blank ahead. -/
structure Ws where
  l : List UInt8
  b : Bool
def app1 (s : List UInt8) (x : Ws) : Ws := if s = [] then x else ⟨x.l ++ (if x.b = true then [32] else []) ++ s, true⟩
theorem app_nil (x : Ws) : app1 [] x = x := if_pos rfl
theorem app_wth (a b : List UInt8) (x : Ws) : app1 (wth a b) x = app1 b (app1 a x) := by
  by_cases ha : a = []
  · subst ha; rw [nil_wth, app_nil]
  by_cases hb : b = []
  · subst hb; rw [wth_nil, app_nil]
  rw [wth_ne ha hb]
  unfold app1
  rw [if_neg (by simp), if_neg hb, if_neg ha, if_pos rfl]
  simp
def appL (ps : List (List UInt8)) (x : Ws) : Ws := ps.foldl (fun x p => app1 p x) x
theorem appL_cons (p : List UInt8) (r : List (List UInt8)) (x : Ws) : appL (p :: r) x = appL r (app1 p x) := rfl
theorem appL_append (l m : List (List UInt8)) (x : Ws) : appL (l ++ m) x = appL m (appL l x) := by unfold appL; rw [List.foldl_append]
theorem app_wcat : ∀ (ps : List (List UInt8)) (x : Ws), app1 (wcat ps) x = appL ps x
  | [], x => app_nil x
  | p :: r, x => by rw [wcat, app_wth, app_wcat r, appL_cons]
theorem app_len (s : List UInt8) (x : Ws) : (app1 s x).l.length ≤ x.l.length + s.length + 1 := by
  unfold app1
  split
  · omega
  · cases x.b <;> simp <;> omega

/-- With "," between. -/
def inter : List (List UInt8) → List (List UInt8)
  | [] => []
  | [p] => [p]
  | p :: q :: r => p :: [44] :: inter (q :: r)
def leastK (k : Int) : Option Nat :=
  if k = 2 ∨ k = 11 ∨ k = 12 ∨ k = 13 ∨ k = 19 ∨ k = 23 then some 2
  else if k = 3 ∨ k = 6 ∨ k = 7 ∨ k = 8 ∨ k = 10 ∨ k = 15 ∨ k = 16 ∨ k = 20 ∨ k = 21 ∨ k = 22 ∨ k = 24 ∨ k = 26 then some 1
  else if 1 ≤ k ∧ k ≤ 27 then some 0 else none
/-- A row's parts. -/
def rowP (k : Int) (t : List UInt8) (l : List (List UInt8)) : List (List UInt8) :=
  if k = 2 then [[102, 117, 110, 99], t, [40]] ++ inter (l.take (l.length - 2)) ++ [[41]] ++ l.drop (l.length - 2)
  else if k = 3 then [t, l.getD 0 []]
  else if k = 4 then []
  else if k = 5 then [[105, 110, 116]]
  else if k = 6 then [[42], l.getD 0 []]
  else if k = 7 then [[91], t, [93], l.getD 0 []]
  else if k = 8 then [[40]] ++ inter l ++ [[41]]
  else if k = 9 then [[123]] ++ l ++ [[125]]
  else if k = 10 then [[118, 97, 114], t, l.getD 0 [], [59]]
  else if k = 11 then [l.getD 0 [], [61], l.getD 1 [], [59]]
  else if k = 12 then [[105, 102], l.getD 0 [], l.getD 1 []] ++ (if 2 < l.length then [[101, 108, 115, 101], l.getD 2 []] else [])
  else if k = 13 then [[102, 111, 114], l.getD 0 [], l.getD 1 []]
  else if k = 14 then [[114, 101, 116, 117, 114, 110]] ++ l.take 1 ++ [[59]]
  else if k = 15 then [[112, 114, 105, 110, 116], l.getD 0 [], [59]]
  else if k = 16 then [l.getD 0 [], [59]]
  else if k = 17 ∨ k = 18 then [t]
  else if k = 19 then [[40], l.getD 0 [], t, l.getD 1 [], [41]]
  else if k = 20 then [[40], [45], l.getD 0 [], [41]]
  else if k = 21 then [[40], [42], l.getD 0 [], [41]]
  else if k = 22 then [[40], [38], l.getD 0 [], [41]]
  else if k = 23 then [l.getD 0 [], [91], l.getD 1 [], [93]]
  else if k = 24 then [l.getD 0 [], [46], t]
  else if k = 25 then [t, [40]] ++ inter l ++ [[41]]
  else if k = 26 then [[110, 101, 119], [40], l.getD 0 [], [41]]
  else if k = 27 then [[114, 101, 97, 100]]
  else []
def nodeT (k : Int) (t : List UInt8) (l : List (List UInt8)) : List UInt8 :=
  match leastK k with
  | none => [63]
  | some m => if l.length < m then [63] else if k = 1 then l.flatMap (fun s => s ++ [10]) else wcat (rowP k t l)
mutual
/-- A tree's text. -/
def txt : Nd → List UInt8
  | .mk k t _ ks => nodeT k t (txtL ks)
def txtL : List Nd → List (List UInt8)
  | [] => []
  | n :: r => txt n :: txtL r
end
theorem txtL_map : ∀ l : List Nd, txtL l = l.map txt
  | [] => by rw [txtL]; rfl
  | n :: r => by rw [txtL, txtL_map r]; rfl
theorem txtL_len (l : List Nd) : (txtL l).length = l.length := by rw [txtL_map, List.length_map]
theorem inter_cons (p : List UInt8) : ∀ (r : List (List UInt8)), inter (p :: r) = p :: r.flatMap (fun q => [[44], q])
  | [] => rfl
  | q :: r => by rw [inter, inter_cons q r]; rfl
/-- What lines make. -/
def lineS (s : List UInt8) (x : Ws) : Ws := ⟨(app1 [10] (if (app1 s x).l.length > x.l.length then ⟨(app1 s x).l, false⟩ else app1 s x)).l, false⟩
theorem line_is' (s : List UInt8) (x : Ws) : lineS s x = ⟨x.l ++ (if x.b = true then [32] else []) ++ s ++ [10], false⟩ := by
  unfold lineS
  by_cases hs : s = []
  · subst hs
    rw [app_nil, if_neg (Nat.lt_irrefl _)]
    unfold app1
    rw [if_neg (by simp)]
    simp
  · have h1 : (app1 s x).l.length > x.l.length := by
      unfold app1
      rw [if_neg hs]
      have : 0 < s.length := List.length_pos_iff.2 hs
      simp; omega
    rw [if_pos h1]
    unfold app1
    rw [if_neg (by simp), if_neg hs]
    simp
def linesS (l : List (List UInt8)) (x : Ws) : Ws := l.foldl (fun x s => lineS s x) x
theorem lines_false : ∀ (l : List (List UInt8)) (a : List UInt8), linesS l ⟨a, false⟩ = ⟨a ++ l.flatMap (fun s => s ++ [10]), false⟩
  | [], a => by simp [linesS]
  | s :: r, a => by
    show linesS r (lineS s ⟨a, false⟩) = _
    rw [line_is', lines_false r]
    simp
theorem lines_all (l : List (List UInt8)) (x : Ws) (h : l ≠ []) : (⟨(linesS l x).l, true⟩ : Ws) = app1 (l.flatMap (fun s => s ++ [10])) x := by
  cases l with
  | nil => exact absurd rfl h
  | cons s r =>
    have : linesS (s :: r) x = linesS r (lineS s x) := rfl
    rw [this, line_is', lines_false]
    unfold app1
    rw [if_neg (show ¬ (List.flatMap (fun s => s ++ [10]) (s :: r) = []) by simp)]
    obtain ⟨xl, xb⟩ := x
    cases xb <;> simp

end Go.Proofs.Ytgndnodahlabiaa
