/-
  The order of blocks (layer 6): contracts of Collect over blocks as they are left, of Reverse, of graph's own Order.
-/
import Derived.Test.YtonoeodlchkiaaaReach
import Derived.Laws.OwnMore
import Derived.Deep.AppendLies
import Derived.Deep.AppendSrc
import Derived.Deep.MidRow
import Derived.RegionTactic
namespace Go.Proofs.Ytonoeodlchkiaaa
open Go.ChangeShapes Go.WideShapes Go.ChangeAt Go.RowKit Go.Shelf

attribute [local go_sem] Oper.semAt_some

theorem owns_below {w w' : World} {base : Nat} {e : TypeId} {size : Nat} {v : Value} {n : Nat} {xs : List Value} (h : w.ownsRow base e size v n xs) (hb : Below w.heap.size w w') : w'.ownsRow base e size v n xs :=
  h.kept (row := none) ⟨hb.os, hb.tape, hb.output, hb.size, fun k hk _ => hb.block k hk⟩ (by cases v.ownBlock <;> simp)
theorem owns_shape {w : World} {base : Nat} {e : TypeId} {size : Nat} {v : Value} {n : Nat} {xs : List Value} (h : w.ownsRow base e size v n xs) : ∃ av cap, v = .slice av n cap ∧ n ≤ cap := by
  rcases h.2 with ⟨rfl, rfl⟩ | ⟨g, cap, cur, rfl, _, _, h1, _, _⟩
  · exact ⟨none, 0, rfl, Nat.le_refl _⟩
  · exact ⟨_, cap, rfl, h1⟩
/-- A row stays where other blocks turn. -/
theorem owns_turns {w w' : World} {Q : Nat → Prop} {base : Nat} {e : TypeId} {size : Nat} {v : Value} {n : Nat} {xs : List Value} (h : w.ownsRow base e size v n xs) (ht : Turns Q w w') (hq : ∀ b, v.ownBlock = some b → ¬ Q b) : w'.ownsRow base e size v n xs := by
  refine ⟨h.1, ?_⟩
  rcases h.2 with h2 | ⟨g, cap, cur, rfl, h3, h4, h5⟩
  · exact .inl h2
  · exact .inr ⟨g, cap, cur, rfl, h3, (ht.block g (lt_of h4) (hq g rfl)).trans h4, h5⟩
theorem wpList_append_run {P : Program} {ops : Array Oper} {rest : List Oper} {o : Oper} {a : Act} {Q : Exit → Act → World → Prop} {w w' : World} (hg : o.guard = none) (s x : Operand) (t : TypeId)
    (hop : o.op = Op.call { callee := Callee.builtin Builtin.append, args := #[s, x], argTypes := #[t, t] }) {v y r : Value} (hs : a.eval s = v) (hx : a.eval x = y) (hr : (Builtin.append_ #[t, t] o.type #[v, y]).run P w = .ok r w')
    (h : wpList P ops Q rest (a.put o.dst r) w') : wpList P ops Q (o :: rest) a w := by
  refine wpList_plain hg fun K hK' => ?_
  unfold Oper.wp
  simp [execOp, hop, resolve, invoke, builtin, hs, hx, hr, Result.andThen]
  exact hK' _ _ h
theorem wpListIn_append_run {F : Fence} {n : Nat} {P : Program} {ops : Array Oper} {rest : List Oper} {o : Oper} {a : Act} {Q : Exit → Act → World → Prop} {w w' : World} (hg : o.guard = none) (s x : Operand) (t : TypeId)
    (hop : o.op = Op.call { callee := Callee.builtin Builtin.append, args := #[s, x], argTypes := #[t, t] }) {v y r : Value} (hs : a.eval s = v) (hx : a.eval x = y) (hr : (Builtin.append_ #[t, t] o.type #[v, y]).run P w = .ok r w')
    (h : wpListIn F n P ops Q rest (a.put o.dst r) w') : wpListIn F n P ops Q (o :: rest) a w := by
  refine wpListIn_plain hg fun K hK' => ?_
  unfold Oper.wpIn
  refine ⟨?_, ?_⟩
  · simp [Oper.about, hop, resolve, Target.leads, Sem.run_pure]
  · rw [Oper.semAt_plain F _ _ (by rw [hop]; intro c hc'; cases hc')]
    simp [execOp, hop, resolve, invoke, builtin, hs, hx, hr, Result.andThen]
    exact hK' _ _ h

/-- One number more behind a row. -/
theorem app_int (w : World) (ty : TypeId) (base : Nat) (v : Value) (n : Nat) (xs : List Value) (hown : w.ownsRow base 3 1 v n xs) (x : Int) (hbd : n ≤ 100000000) (hbase : base ≤ w.heap.size) :
    ∃ g cap w', (Builtin.append_ #[25, 25] ty #[v, .slice (some ⟨w.heap.size, 0, none⟩) 1 1]).run Try.prog (w.alloc (.cells #[.int .i64 x] 3)) = .ok (.slice (some ⟨g, 0, none⟩) (n + 1) cap) w' ∧ w'.ownsRow base 3 1 (.slice (some ⟨g, 0, none⟩) (n + 1) cap) (n + 1) (xs ++ [.int .i64 x]) ∧ (w.alloc (.cells #[.int .i64 x] 3)).grownBy w' v.ownBlock ∧ (v.ownBlock = some g ∨ g = w.heap.size + 1) ∧ g < w'.heap.size := by
  obtain ⟨i, h1, h2, h3, h4⟩ := typI
  exact run_append_lies (P := Try.prog) (w.alloc (.cells #[.int .i64 x] 3)) 25 ty base 3 i _ 1 8 Try.underlying25 h1 h2 h4 h3 rfl (by decide) v n xs (hown.alloc _) ⟨w.heap.size, 0, none⟩ 1 1 [.int .i64 x] rfl
    (fun j u hu => by
      rw [Addr.add_mid]
      have hj : j = 0 := by have := (List.getElem?_eq_some_iff.1 hu).1; simp at this; omega
      subst hj
      simp at hu; subst hu
      rw [cell_of (World.alloc_heap_new w _)]; rfl)
    (fun u hu => by simp at hu; subst hu; rfl) (by decide) (by unfold maxLen; omega) (by omega) (by simp; omega) _ (by simp)

abbrev intsV (s : List Nat) : List Value := s.map fun x : Nat => .int .i64 (x : Int)

set_option maxRecDepth 100000 in
set_option maxHeartbeats 2000000 in
/-- Blocks as they are left, in a new row. -/
theorem collect_is (av : Option Addr) (blk off cap : Nat) (hd : Nat → Hdr) (g : List (List Nat)) (hgr : Right g) (M Bm Bg Bs start : Nat) (m : List Bool) (w0 w : World) (hlen : m.length = g.length) (hst : start < g.length) (hne : M ≠ Bm ∧ M ≠ Bg)
    (hbm : w.heap[Bm]? = some (.cells #[.slice (some ⟨M, 0, none⟩) g.length g.length] 34 (0, 0))) (hbg : w.heap[Bg]? = some (.cells #[.slice av g.length cap] 22 (0, 0))) (hbs : w.heap[Bs]? = some (.cells #[.int .i64 (start : Int)] 3 (0, 0))) (hm : w.heap[M]? = some (flagsO m))
    (hG : GAt w0 av blk off hd (castG g)) (hB : Below w0.heap.size w0 w) (hM : w0.heap.size ≤ M) (hM2 : w0.heap.size ≤ Bm) (hM3 : w0.heap.size ≤ Bg) :
    Calls Try.prog 55 #[.slice none 0 0, .func (.func 51) #[] #[.pointer (some ⟨Bm, 0, none⟩), .pointer (some ⟨Bg, 0, none⟩), .pointer (some ⟨Bs, 0, none⟩)]] w fun e w' => Below w0.heap.size w0 w' ∧ ∃ v m' o, e = .returned v ∧ w'.ownsRow w0.heap.size 3 1 v o.length (intsV o) ∧ Walk g [start] m m' o := by
  refine (callsIn_wide (n := 0)).1 ?_
  have l1 := lt_of hbm
  have l2 := lt_of hbg
  have l3 := lt_of hbs
  have l4 := lt_of hm
  have hle := hB.size
  have HG := hide hG
  clear hG
  refine callsIn_of_wp_marks Try.func55 rfl trivial ?_
  simp only [Try.ntmps55, List.size_toArray, List.length_cons, List.length_nil, Nat.reduceAdd, Nat.reduceSub, Array.replicate_succ, Array.replicate_zero, List.push_toArray, List.append_toArray, List.nil_append, List.cons_append]
  gi_wp2
  have hb1 : Below w.heap.size w (w.alloc (.cells #[.slice none 0 0] 25)) := (Below.refl _ w).alloc (Nat.le_refl _) _
  have k1 := World.alloc_heap_new w (.cells #[.slice none 0 0] 25)
  have hs1 : (w.alloc (.cells #[.slice none 0 0] 25)).heap.size = w.heap.size + 1 := by simp
  generalize w.alloc (.cells #[.slice none 0 0] 25) = w1 at *
  refine range_leaving (M := M) (Bm := Bm) (Bg := Bg) (Bs := Bs) (start := start) (m := m) (av := av) (blk := blk) (off := off) (hd := hd) (cap := cap) rfl rfl hgr.okay hlen hst hne ((hb1.block _ l1).trans hbm) ((hb1.block _ l2).trans hbg) ((hb1.block _ l3).trans hbs) ((hb1.block _ l4).trans hm)
    (fun s W => Below w0.heap.size w0 W ∧ ∃ v, W.heap[w.heap.size]? = some (.cells #[v] 25 (0, 0)) ∧ W.ownsRow (w.heap.size + 5) 3 1 v s.length (intsV s)) ?hI ?hRd ?h0 ?hround ?hdone
  case hI =>
    rintro s W W' ⟨i1, v, i2, i3⟩ ht
    have hq : ∀ b, b < w0.heap.size ∨ b = w.heap.size ∨ w.heap.size + 5 ≤ b → ¬ lvP M Bm Bg w1.heap.size b := fun b hb hn => by
      rcases hn with h | h | h | h <;> omega
    have := lt_of i2
    exact ⟨ht.below i1 i1.size (fun b hb => hq b (.inl hb)), v, (ht.block _ (by omega) (hq _ (.inr (.inl rfl)))).trans i2, owns_turns i3 ht (fun b hb => hq b (.inr (.inr (i3.lt b hb).1)))⟩
  case hRd => exact fun s W h => HG.out.below h.1
  case h0 => exact ⟨hB.trans (hb1.mono hle), _, k1, World.ownsRow_nil _ _ _ _⟩
  case hround =>
    intro l s x W K hx hsl hK
    have HK := hide hK
    clear hK
    gi_wp2
    refine HK.out _ ?_
    rintro Wb ⟨i1, v, i2, i3⟩ hsz
    have hmost := hgr.most
    obtain ⟨g', cp, w', hap, ho, hgb, hat, hlt⟩ := app_int Wb 25 (w.heap.size + 5) v s.length (intsV s) i3 (x : Int) (by omega) (by omega)
    have HAP := hide hap
    clear hap
    have c0 : Wb.cell? ⟨w.heap.size, 0, none⟩ = some v := cell_of i2 0
    have hbig : ∀ b, v.ownBlock = some b → w.heap.size + 5 ≤ b := fun b hb => (i3.lt b hb).1
    have i4 : w'.heap[w.heap.size]? = some (.cells #[v] 25 (0, 0)) := by
      rw [hgb.block _ (by simp; omega) (fun e => by have := hbig _ e.symm; omega), Below.heap_alloc _ _ _ (by omega)]; exact i2
    have c1 : w'.cell? ⟨w.heap.size, 0, none⟩ = some v := cell_of i4 0
    have f1 := frozen_of i4 0
    gi_wp2_with (gi_at_builtin; refine wpListIn_append_run rfl _ _ 25 rfl rfl rfl HAP.out ?_)
    have hkeep : ∀ b, b < w.heap.size + 5 → w'.heap[b]? = Wb.heap[b]? := fun b hb => by
      rw [hgb.block _ (by simp; omega) (fun e => by have := hbig _ e.symm; omega), Below.heap_alloc _ _ _ (by omega)]
    refine ⟨by have := hgb.size; simp at this ⊢; omega, fun b hb => (Below.heap_setCell _ _ _ _ (by show b ≠ w.heap.size; rcases hb with h | h | h | h <;> omega)).trans (hkeep b (by rcases hb with h | h | h | h <;> omega)), ?_, .slice (some ⟨g', 0, none⟩) (s.length + 1) cp, ?_, ?_⟩
    · refine (i1.trans ⟨hgb.os, hgb.tape, hgb.output, ?_, fun b hb => hkeep b (by omega)⟩).setCell (p := ⟨w.heap.size, 0, none⟩) (by exact hle) _
      have := hgb.size; simp at this; omega
    · unfold World.setCell
      rw [Array.getElem?_modify, if_pos rfl, i4]; rfl
    · rw [List.length_append, show intsV (s ++ [x]) = intsV s ++ [.int .i64 (x : Int)] by simp [intsV]]
      refine owns_turns ho (Turns.setCell (Q := fun b => b = w.heap.size) _ _ _ rfl) (fun b hb e => ?_)
      have := (ho.lt b hb).1
      omega
  case hdone =>
    rintro D s W m' ⟨i1, v, i2, i3⟩ hw hm' hD hK
    have c0 : W.cell? ⟨w.heap.size, 0, none⟩ = some v := cell_of i2 0
    gi_wp2
    refine ⟨by simp, .inl ⟨_, _, rfl, run_takeDeferred hK, ?_⟩⟩
    refine ⟨v, by simp [results, Try.results55, go_sem], bel_put i1 D _ (by omega), v, m', s, rfl, ?_, hw⟩
    have ho : W.ownsRow w0.heap.size 3 1 v s.length (intsV s) := by
      refine ⟨i3.1, ?_⟩
      rcases i3.2 with h | ⟨g', cp, cur, h1, h2, h3⟩
      · exact .inl h
      · exact .inr ⟨g', cp, cur, h1, by omega, h3⟩
    refine owns_turns ho (Turns.putObj (Q := fun b => b = D) _ _ _ rfl) (fun b hb e => ?_)
    subst e
    obtain ⟨h1, h2⟩ := ho.lt b hb
    rcases ho.2 with ⟨rfl, _⟩ | ⟨g', cp, cur, rfl, _, h3, _⟩
    · cases hb
    · have e : g' = b := by simpa [Value.ownBlock] using hb
      subst e
      rw [h3] at hK; cases hK

/- Reverse, in place. -/
theorem getElem?_two (xs : List Value) (i j p : Nat) (a b : Value) (hij : i ≠ j) (hi : i < xs.length) (hj : j < xs.length) : ((xs.set i a).set j b)[p]? = if p = j then some b else if p = i then some a else xs[p]? := by
  by_cases h1 : p = j
  · subst h1; rw [if_pos rfl, List.getElem?_set_self (by simpa using hj)]
  · rw [if_neg h1, List.getElem?_set_ne (fun e => h1 e.symm)]
    by_cases h2 : p = i
    · subst h2; rw [if_pos rfl, List.getElem?_set_self hi]
    · rw [if_neg h2, List.getElem?_set_ne (fun e => h2 e.symm)]
/-- The outer k of both ends are exchanged. -/
def RevK (l xs : List Value) (k : Nat) : Prop := xs.length = l.length ∧ ∀ p, p < l.length → xs[p]? = if p < k ∨ l.length - k ≤ p then l[l.length - 1 - p]? else l[p]?
theorem RevK.all {l xs : List Value} {k : Nat} (h : RevK l xs k) (hk : l.length ≤ 2 * k + 1) : xs = l.reverse := by
  apply List.ext_getElem?
  intro p
  by_cases hp : p < l.length
  · rw [h.2 p hp, List.getElem?_reverse hp]
    split
    · rfl
    · have : p = l.length - 1 - p := by omega
      rw [← this]
  · rw [List.getElem?_eq_none (by have := h.1; omega), List.getElem?_eq_none (by simp; omega)]
theorem RevK.step {l xs ys : List Value} {k : Nat} (h : RevK l xs k) (hk : 2 * k + 1 < l.length) (hl : ys.length = xs.length) (hy : ∀ p, ys[p]? = if p = k then xs[l.length - 1 - k]? else if p = l.length - 1 - k then xs[k]? else xs[p]?) : RevK l ys (k + 1) := by
  refine ⟨hl.trans h.1, fun p hp => ?_⟩
  rw [hy]
  have h1 := h.2 k (by omega)
  have h2 := h.2 (l.length - 1 - k) (by omega)
  rw [if_neg (by omega)] at h1 h2
  by_cases e1 : p = k
  · subst e1; rw [if_pos rfl, if_pos (by omega), h2]
  · rw [if_neg e1]
    by_cases e2 : p = l.length - 1 - k
    · rw [if_pos e2, if_pos (by omega), h1, e2]; congr 1; omega
    · rw [if_neg e2, h.2 p hp]
      by_cases e3 : p < k ∨ l.length - k ≤ p
      · rw [if_pos e3, if_pos (by omega)]
      · rw [if_neg e3, if_neg (by omega)]

set_option maxRecDepth 100000 in
set_option maxHeartbeats 2000000 in
theorem reverse_is (base : Nat) (v : Value) (l : List Nat) (h0 : 0 < l.length) (hl : l.length ≤ 100000000) (w : World) (hown : w.ownsRow base 3 1 v l.length (intsV l)) :
    Calls Try.prog 44 #[v] w fun e w' => (∃ u, e = .returned u) ∧ Turns (fun b => v.ownBlock = some b) w w' ∧ w'.ownsRow base 3 1 v l.length (intsV l.reverse) := by
  obtain ⟨g, cap, rfl, hb, hlt⟩ := hown.form (by omega)
  have hle : l.length = (intsV l).length := by simp
  have HV : Hid (∀ (W : World) (xs : List Value) (k : Nat), RevK (intsV l) xs k → W.ownsRow base 3 1 (.slice (some ⟨g, 0, none⟩) l.length cap) l.length xs → 2 * k + 1 < l.length → ∃ a b : Nat, W.cell? ⟨g, k, none⟩ = some (.int .i64 (a : Int)) ∧ W.cell? ⟨g, l.length - 1 - k, none⟩ = some (.int .i64 (b : Int)) ∧ xs[k]? = some (.int .i64 (a : Int)) ∧ xs[l.length - 1 - k]? = some (.int .i64 (b : Int))) := by
    intro W xs k hR hO hk
    have h1 := hR.2 k (by omega)
    have h2 := hR.2 (l.length - 1 - k) (by omega)
    rw [if_neg (by omega)] at h1 h2
    rw [List.getElem?_map, List.getElem?_eq_getElem (show k < l.length by omega), Option.map_some] at h1
    rw [List.getElem?_map, List.getElem?_eq_getElem (show l.length - 1 - k < l.length by omega), Option.map_some] at h2
    exact ⟨_, _, (hO.cellAt k (by omega)).trans h1, (hO.cellAt _ (by omega)).trans h2, h1, h2⟩
  have HF : Hid (∀ (W : World) (xs : List Value) (k : Nat), W.ownsRow base 3 1 (.slice (some ⟨g, 0, none⟩) l.length cap) l.length xs → W.frozen? ⟨g, k, none⟩ = false) := fun W xs k hO => hO.frozenAt k
  generalize hn : l.length = n at *
  have HN := hide hn
  have HL := hide hle
  clear hn hle
  go_enter Try.func44, Try.ntmps44
  go_wp2
  go_loopw [2, 3] (fun i j wr => ∃ k : Nat, i = .int .i64 k ∧ j = .int .i64 ((n : Int) - 1 - k) ∧ 2 * k ≤ n ∧ Turns (fun b => b = g) w wr ∧ ∃ xs, RevK (intsV l) xs k ∧ wr.ownsRow base 3 1 (.slice (some ⟨g, 0, none⟩) n cap) n xs) (fun i _ _ => n - (intOf i).toNat)
  case atStart => exact ⟨0, rfl, by go_num, by omega, Turns.refl _ _, intsV l, ⟨rfl, fun p hp => by have := HL.out; rw [if_neg (by omega)]⟩, hown⟩
  case round =>
    obtain ⟨k, rfl, rfl, hk, ht, xs, hR, hO⟩ := hrel
    by_cases hlt2 : 2 * k + 1 < n
    · have e1 : ((k : Int) < (n : Int) - 1 - (k : Int)) = True := by simp; omega
      obtain ⟨a, b, c1, c2, x1, x2⟩ := HV.out wr xs k hR hO hlt2
      have f1 := HF.out wr xs k hO
      have f2 := HF.out wr xs (n - 1 - k) hO
      have e2 : ((n : Int) - 1 - (k : Int)) = ((n - 1 - k : Nat) : Int) := by omega
      have e3 : ((k : Int) < (n : Int)) = True := by simp; omega
      have e4 : (((n - 1 - k : Nat) : Int) < (n : Int)) = True := by simp; omega
      rw [e2] at e1 ⊢
      have hne : k ≠ n - 1 - k := by omega
      have hj : n - 1 - k ≤ 100000000 := by omega
      have HE := hide e2
      clear e2
      generalize hjj : n - 1 - k = j at *
      have HJ := hide hjj
      clear hjj
      go_wp2
      go_region
      go_wp2
      go_roundw
      case rel =>
        have hx1 := hO.1
        have ho2 := ((hO.stored k (.int .i64 (b : Int))).1.stored j (.int .i64 (a : Int))).1
        have hl := HL.out
        have hj := HJ.out
        have he := HE.out
        refine ⟨k + 1, by go_num, ?_, by omega, ht.trans ((Turns.setCell (Q := fun b => b = g) wr ⟨g, k, none⟩ _ rfl).trans ((Turns.setCell (Q := fun b => b = g) _ ⟨g, j, none⟩ _ rfl).trans ⟨rfl, rfl, rfl, Nat.le_refl _, fun _ _ _ => rfl⟩)), _, hR.step (by omega) ?_ (fun p => ?_), ho2⟩
        · go_num
        · simp
        · rw [getElem?_two _ _ _ _ _ _ hne (by omega) (by omega), ← hl, hj, x1, x2]
          by_cases e1 : p = k
          · subst e1; rw [if_neg hne, if_pos rfl, if_pos rfl]
          · rw [if_neg e1, if_neg e1]
      case measure => simp [intOf]; omega
    · have e1 : ((k : Int) < (n : Int) - 1 - (k : Int)) = False := by simp; omega
      have hx := hR.all (by rw [← HL.out]; omega)
      go_wp2
      go_end0
      refine ⟨⟨_, rfl⟩, ht.mono (fun b hb => by simp [Value.ownBlock, hb]), ?_⟩
      rw [show intsV l.reverse = (intsV l).reverse by simp [intsV], ← hx]
      exact hO

theorem collect_of {q : Value} {w : World} {R : Value → World → Prop} (h : Calls Try.prog 55 #[.slice none 0 0, q] w fun e w' => ∃ v, e = .returned v ∧ R v w') : Calls Try.prog 43 #[q] w fun e w' => ∃ v, e = .returned v ∧ R v w' := by
  go_enter Try.func43, Try.ntmps43
  go_wp2_with fail
  refine h.mono ?_
  rintro e w4 ⟨v, rfl, hR⟩
  go_wp2
  go_ret
  exact ⟨v, rfl, hR⟩

set_option maxRecDepth 100000 in
set_option maxHeartbeats 2000000 in
/-- Order of a right graph. -/
theorem order_is (av : Option Addr) (cap blk off : Nat) (hd : Nat → Hdr) (g : List (List Nat)) (hgr : Right g) (w : World) (hG : GAt w av blk off hd (castG g)) :
    Calls Try.prog 25 #[.slice av g.length cap] w fun e w' => Below w.heap.size w w' ∧ ∃ v m' o, e = .returned v ∧ w'.ownsRow w.heap.size 3 1 v o.length (intsV o.reverse) ∧ Walk g [0] (List.replicate g.length false) m' o := by
  have hr := right_any av cap blk off hd (castG g) w hG
  rw [castG_len, rightB_true.2 hgr.toI] at hr
  have hone := hgr.one
  have hmost := hgr.most
  have HG := hide hG
  clear hG
  have mk := make_flags g.length (by omega)
  go_enter Try.func25, Try.ntmps25
  go_wp2_with fail
  refine hr.mono ?_
  rintro e w1 ⟨rfl, hb1⟩
  clear hr
  go_wp2_with fail
  have hb2 : Below w1.heap.size w1 (w1.alloc (flagsO (List.replicate g.length false))) := (Below.refl _ w1).alloc (Nat.le_refl _) _
  have kM := World.alloc_heap_new w1 (flagsO (List.replicate g.length false))
  have hs2 : (w1.alloc (flagsO (List.replicate g.length false))).heap.size = w1.heap.size + 1 := by simp
  have HL := hide (callsIn_wide.1 (leaving_in 0 av (some ⟨w1.heap.size, 0, none⟩) g.length cap g.length g.length 0 (w1.alloc (flagsO (List.replicate g.length false)))))
  rw [hs2] at HL
  generalize w1.alloc (flagsO (List.replicate g.length false)) = w2 at *
  have hle := hb1.size
  generalize w1.heap.size = h at *
  refine HL.out.mono ?_
  rintro e w3 ⟨rfl, hs3, hb3, kg, ks, km⟩
  clear HL mk
  have hB3 : Below w.heap.size w w3 := (hb1.trans (hb2.mono hle)).trans (hb3.mono (by omega))
  have hcol := collect_is av blk off cap hd g hgr h (h + 1 + 2) (h + 1) (h + 1 + 1) 0 (List.replicate g.length false) w w3 (by simp) (by omega) (by omega) km kg ks ((hb3.block _ (by omega)).trans kM) HG.out hB3 hle (by omega) (by omega)
  have hcol33 := collect_of (R := fun v w' => Below w.heap.size w w' ∧ ∃ m' o, w'.ownsRow w.heap.size 3 1 v o.length (intsV o) ∧ Walk g [0] (List.replicate g.length false) m' o) (hcol.mono fun e w' ⟨h1, v, m', o, h2, h3, h4⟩ => ⟨v, h2, h1, m', o, h3, h4⟩)
  go_wp2_with fail
  refine hcol33.mono ?_
  rintro e w4 ⟨v, rfl, hB4, m', o, ho, hw⟩
  clear hcol hcol33
  have hlo : 0 < o.length := by
    obtain ⟨o1, rfl⟩ := hw.last (by rw [List.getElem?_replicate, if_pos (by omega)])
    simp
  have hct := hw.count
  have hul := unmetN_le_len (List.replicate g.length false)
  rw [List.length_replicate] at hul
  go_wp2_with fail
  refine (reverse_is w.heap.size v o hlo (by omega) w4 ho).mono ?_
  rintro e w5 ⟨⟨u, rfl⟩, ht, ho5⟩
  go_wp2
  go_ret
  exact ⟨ht.below hB4 hB4.size (fun b hb hq => by have := (ho.lt b hq).1; omega), v, m', o, rfl, ho5, hw⟩
theorem order_none (av : Option Addr) (cap blk off : Nat) (hd : Nat → Hdr) (g : List (List Int)) (hno : ¬ RightI g) (w : World) (hG : GAt w av blk off hd g) :
    Calls Try.prog 25 #[.slice av g.length cap] w fun e w' => Below w.heap.size w w' ∧ e = .returned (.slice none 0 0) := by
  have hr := right_any av cap blk off hd g w hG
  rw [rightB_false hno] at hr
  clear hG
  go_enter Try.func25, Try.ntmps25
  go_wp2_with fail
  refine hr.mono ?_
  rintro e w1 ⟨rfl, hb1⟩
  go_wp2
  go_ret
  exact ⟨hb1, rfl⟩

end Go.Proofs.Ytonoeodlchkiaaa
