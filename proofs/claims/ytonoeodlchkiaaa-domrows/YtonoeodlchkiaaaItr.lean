/-
  Iterated (layer 7): the contract of dom's own, of a right graph and of blocks of it.
-/
import Derived.Test.YtonoeodlchkiaaaFro
import Derived.Test.YtonoeodlchkiaaaDep
namespace Go.Proofs.Ytonoeodlchkiaaa
open Go.ChangeShapes Go.WideShapes Go.ChangeAt Go.RowKit Go.Shelf Go.Maps

attribute [local go_sem] Oper.semAt_some

theorem eql_nil25 (a : Addr) (l c : Nat) (w : World) : (binOp .eql 25 (.slice (some a) l c) (.slice none 0 0)).run Try.prog w = .ok (.bool false) w := by
  simp [binOp, run_equal_slice_nil w 25 3 (some a) l c Try.underlying25]

set_option maxRecDepth 100000 in
theorem isBlockR_is (B cap n x : Nat) (hx : x < n) (w : World) : Calls Try.prog 42 #[.slice (some ⟨B, 0, none⟩) n cap, .int .i64 (x : Int)] w fun e w' => e = .returned (.bool true) ∧ w' = w := by
  have e1 : ((0 : Int) ≤ (x : Int)) = True := eq_true (by omega)
  have e2 : ((x : Int) < (n : Int)) = True := eq_true (by omega)
  clear hx
  go_enter Try.func42, Try.ntmps42
  go_wp2
  go_ret
  exact ⟨rfl, rfl⟩

theorem clone_is (A off cap : Nat) (l : List Nat) (hl : l.length ≤ 1000) (w : World) (hA : A < w.heap.size) (hc : ∀ k, k < l.length → w.cell? ⟨A, off + k, none⟩ = some (.int .i64 ((l.getD k 0 : Nat) : Int))) :
    Calls Try.prog 41 #[.slice (some ⟨A, off, none⟩) l.length cap] w fun e w' => ∃ v, e = .returned v ∧ w'.ownsRow w.heap.size 3 1 v l.length (intsV l) ∧ Below w.heap.size w w' := by
  have hcr := copy_row w 25 (some ⟨A, off, none⟩) cap A off (l.map (fun x : Nat => (x : Int))) (by rw [List.length_map]; exact hl) (fun _ => ⟨rfl, hA⟩) (fun k hk => by
    rw [List.length_map] at hk
    rw [cast_at]; exact hc k hk)
  obtain ⟨v, w', hap, hov, hb⟩ := hcr
  rw [List.length_map] at hap hov
  have hov2 : w'.ownsRow w.heap.size 3 1 v l.length (intsV l) := by
    have e : intsI (l.map (fun x : Nat => (x : Int))) = intsV l := by simp [intsI, intsV]
    rw [← e]; exact hov
  have hen := eql_nil25 ⟨A, off, none⟩ l.length cap w
  have HAP := hide hap
  have HF := hide (And.intro hov2 hb)
  clear hap hov hov2 hb hc
  go_enter Try.func41, Try.ntmps41
  go_wp2_with (at_builtin; refine wpList_append_run rfl _ _ 25 rfl rfl rfl HAP.out ?_)
  go_ret
  exact ⟨v, rfl, HF.out.1, HF.out.2⟩

/-- Rows that lie between two marks. -/
def RowsT (W : World) (lo hi H n : Nat) (f : Nat → List Nat) : Prop := ∃ vs : List Value, vs.length = n ∧ W.heap[H]? = some (.cells vs.toArray 25 (0, 0)) ∧ ∀ t, t < n → ∃ v, vs[t]? = some v ∧ W.ownsRow lo 3 1 v (f t).length (intsV (f t)) ∧ ∀ b, v.ownBlock = some b → b < hi
theorem RowsB.top {W : World} {base H n : Nat} {f : Nat → List Nat} (h : RowsB W base H n f) : RowsT W base W.heap.size H n f := by
  obtain ⟨vs, h1, h2, h3, _⟩ := h
  exact ⟨vs, h1, h2, fun t ht => by obtain ⟨v, hv, ho⟩ := h3 t ht; exact ⟨v, hv, ho, fun b hb => (ho.lt b hb).2⟩⟩
theorem RowsT.turns {W W' : World} {lo hi H n : Nat} {f : Nat → List Nat} {Q : Nat → Prop} (h : RowsT W lo hi H n f) (ht : Turns Q W W') (hH : ¬ Q H) (hq : ∀ b, lo ≤ b → b < hi → ¬ Q b) : RowsT W' lo hi H n f := by
  obtain ⟨vs, h1, h2, h3⟩ := h
  refine ⟨vs, h1, (ht.block H (lt_of h2) hH).trans h2, fun t htn => ?_⟩
  obtain ⟨v, hv, ho, hl⟩ := h3 t htn
  exact ⟨v, hv, owns_turns ho ht (fun b hb => hq b (ho.lt b hb).1 (hl b hb)), hl⟩
theorem RowsT.cell {W : World} {lo hi H n : Nat} {f : Nat → List Nat} (h : RowsT W lo hi H n f) (t : Nat) (ht : t < n) : ∃ av cap, W.cell? ⟨H, t, none⟩ = some (.slice av (f t).length cap) ∧ ∀ k, k < (f t).length → ∃ gb, av = some ⟨gb, 0, none⟩ ∧ lo ≤ gb ∧ gb < hi ∧ W.cell? ⟨gb, k, none⟩ = some (.int .i64 (((f t).getD k 0 : Nat) : Int)) := by
  obtain ⟨vs, h1, h2, h3⟩ := h
  obtain ⟨v, hv, ho, hl⟩ := h3 t ht
  obtain ⟨av, cap, rfl, _⟩ := owns_shape ho
  refine ⟨av, cap, by rw [cell_of h2]; simpa using hv, fun k hk => ?_⟩
  obtain ⟨gb, cap', e, hb, hlt⟩ := ho.form (by omega)
  injection e with e1 e2 e3
  subst e1
  refine ⟨gb, rfl, hb, hl gb (by simp [Value.ownBlock]), ?_⟩
  rw [ho.cellAt k (by omega), List.getElem?_map, List.getD_eq_getElem?_getD (l := f t), List.getElem?_eq_getElem hk]; rfl
theorem RowsT.frozen {W : World} {lo hi H n : Nat} {f : Nat → List Nat} (h : RowsT W lo hi H n f) (s : Nat) : W.frozen? ⟨H, s, none⟩ = false := by
  obtain ⟨vs, h1, h2, h3⟩ := h
  exact frozen_of h2 s
theorem RowsT.drop {W : World} {lo hi H n : Nat} {f : Nat → List Nat} (h : RowsT W lo hi H n f) (t : Nat) (ht : t < n) (hH : H < lo) : RowsT (W.setCell ⟨H, t, none⟩ (.slice none 0 0)) lo hi H n (fun s => if s = t then [] else f s) := by
  obtain ⟨vs, h1, h2, h3⟩ := h
  refine ⟨vs.set t (.slice none 0 0), by simpa using h1, heap_set_same h2 t _, fun s hs => ?_⟩
  by_cases e : s = t
  · subst e
    exact ⟨.slice none 0 0, List.getElem?_set_self (by omega), by simp only [↓reduceIte]; exact World.ownsRow_nil _ _ _ _, fun b hb => by cases hb⟩
  · obtain ⟨v, hv, ho, hl⟩ := h3 s hs
    refine ⟨v, by rw [List.getElem?_set_ne (Ne.symm e)]; exact hv, ?_, hl⟩
    simp only [if_neg e]
    exact owns_turns ho (Turns.setCell (Q := fun b => b = H) W ⟨H, t, none⟩ _ rfl) (fun b hb e => by have := (ho.lt b hb).1; omega)
def lenV : Value → Nat
  | .slice _ n _ => n
  | _ => 0
def rowLens (H : Nat) (W : World) : Nat := match W.heap[H]? with
  | some (.cells cs _ _) => (cs.toList.map lenV).sum
  | _ => 0
def lens (n : Nat) (f : Nat → List Nat) : Nat := ((List.range n).map fun t => (f t).length).sum
theorem rowLens_is {W : World} {lo hi H n : Nat} {f : Nat → List Nat} (h : RowsT W lo hi H n f) : rowLens H W = lens n f := by
  obtain ⟨vs, h1, h2, h3⟩ := h
  unfold rowLens lens
  rw [h2]
  show (vs.map lenV).sum = _
  congr 1
  apply List.ext_getElem?
  intro t
  rw [List.getElem?_map, List.getElem?_map]
  by_cases ht : t < n
  · obtain ⟨v, hv, ho, _⟩ := h3 t ht
    obtain ⟨av, cap, rfl, _⟩ := owns_shape ho
    rw [hv, List.getElem?_range ht]; rfl
  · rw [List.getElem?_eq_none (by omega), List.getElem?_eq_none (by simp; omega)]; rfl
theorem lens_succ (f : Nat → List Nat) (n : Nat) : lens (n + 1) f = lens n f + (f n).length := by
  unfold lens
  rw [List.range_succ, List.map_append, List.sum_append]; simp
theorem lens_drop (f : Nat → List Nat) (t : Nat) : ∀ n, lens n (fun s => if s = t then [] else f s) + (if t < n then (f t).length else 0) = lens n f := by
  intro n
  induction n with
  | zero => simp [lens]
  | succ n ih =>
    rw [lens_succ, lens_succ]
    by_cases h1 : n = t
    · subst h1
      rw [if_neg (Nat.lt_irrefl _)] at ih
      rw [if_pos rfl, if_pos (Nat.lt_succ_self _)]
      simp
      omega
    · by_cases h2 : t < n
      · rw [if_pos h2] at ih; rw [if_neg h1, if_pos (show t < n + 1 by omega)]; omega
      · rw [if_neg h2] at ih; rw [if_neg h1, if_neg (show ¬ t < n + 1 by omega)]; omega
theorem lens_le (f : Nat → List Nat) (c : Nat) : ∀ n, (∀ t, t < n → (f t).length ≤ c) → lens n f ≤ n * c
  | 0, _ => by simp [lens]
  | n + 1, h => by
    have h1 := lens_le f c n (fun t ht => h t (by omega))
    have h2 := h n (by omega)
    rw [lens_succ, Nat.succ_mul]; omega
theorem rising_len {l : List Nat} {n : Nat} (h : l.Pairwise (· < ·)) (hn : ∀ x ∈ l, x < n) : l.length ≤ n := by
  have hnd : l.Nodup := h.imp fun h => Nat.ne_of_lt h
  have h2 := hnd.length_le_of_subset (l₂ := List.range n) (fun x hx => List.mem_range.2 (hn x hx))
  rwa [List.length_range] at h2

/-- Who is come to by frontiers, from some on. -/
inductive Itd (f : Nat → List Nat) (at_ : List Nat) : Nat → Prop
  | first {a t : Nat} : a ∈ at_ → t ∈ f a → Itd f at_ t
  | more {b t : Nat} : Itd f at_ b → t ∈ f b → Itd f at_ t
/-- Between two of those to be gone over. -/
structure IV (n : Nat) (f : Nat → List Nat) (at_ : List Nat) (f' : Nat → List Nat) (l wk : List Nat) : Prop where
  wlt : ∀ x ∈ wk, x < n
  sound : ∀ t ∈ l, Itd f at_ t
  win : ∀ x ∈ wk, x ∈ at_ ∨ x ∈ l
  rows : ∀ a, a < n → f' a = f a ∨ (f' a = [] ∧ ∀ t ∈ f a, t ∈ l)
  cl : ∀ a, a ∈ at_ ∨ a ∈ l → a ∈ wk ∨ ∀ t ∈ f a, t ∈ l
/-- Within one. -/
structure IW (n : Nat) (f : Nat → List Nat) (at_ : List Nat) (f' : Nat → List Nat) (y : Nat) (l wk : List Nat) : Prop where
  wlt : ∀ x ∈ wk, x < n
  sound : ∀ t ∈ l, Itd f at_ t
  win : ∀ x ∈ wk, x ∈ at_ ∨ x ∈ l
  yin : y ∈ at_ ∨ y ∈ l
  rows : ∀ a, a < n → f' a = f a ∨ (f' a = [] ∧ ∀ t ∈ f a, t ∈ l)
  cl : ∀ a, a ∈ at_ ∨ a ∈ l → a ≠ y → a ∈ wk ∨ ∀ t ∈ f a, t ∈ l
theorem IV.pop {n : Nat} {f : Nat → List Nat} {at_ : List Nat} {f' : Nat → List Nat} {l wk : List Nat} {y : Nat} (h : IV n f at_ f' l (wk ++ [y])) : IW n f at_ f' y l wk :=
  ⟨fun x hx => h.wlt x (by simp [hx]), h.sound, fun x hx => h.win x (by simp [hx]), h.win y (by simp), h.rows, fun a ha hay => (h.cl a ha).imp (fun hm => by rcases List.mem_append.1 hm with hm | hm; exact hm; simp at hm; exact absurd hm hay) id⟩
theorem IW.put {n : Nat} {f : Nat → List Nat} {at_ : List Nat} {f' : Nat → List Nat} {l wk : List Nat} {y t : Nat} (h : IW n f at_ f' y l wk) (hy : y < n) (ht : t ∈ f' y) (htn : t < n) : IW n f at_ f' y (l ++ [t]) (wk ++ [t]) := by
  have htf : t ∈ f y := by
    rcases h.rows y hy with e | ⟨e, _⟩
    · rwa [e] at ht
    · rw [e] at ht; cases ht
  have hit : Itd f at_ t := by
    rcases h.yin with h' | h'
    · exact .first h' htf
    · exact .more (h.sound y h') htf
  refine ⟨fun x hx => ?_, fun x hx => ?_, fun x hx => ?_, h.yin.imp id (fun h' => by simp [h']), fun a ha => (h.rows a ha).imp id fun ⟨e, h2⟩ => ⟨e, fun u hu => by simp [h2 u hu]⟩, fun a ha hay => ?_⟩
  · rcases List.mem_append.1 hx with hx | hx
    · exact h.wlt x hx
    · simp at hx; subst hx; exact htn
  · rcases List.mem_append.1 hx with hx | hx
    · exact h.sound x hx
    · simp at hx; subst hx; exact hit
  · rcases List.mem_append.1 hx with hx | hx
    · exact (h.win x hx).imp id fun h' => by simp [h']
    · simp at hx; subst hx; right; simp
  · by_cases hat : a = t
    · left; simp [hat]
    · have ha' : a ∈ at_ ∨ a ∈ l := ha.imp id fun h' => by
        rcases List.mem_append.1 h' with h' | h'
        · exact h'
        · simp at h'; exact absurd h' hat
      exact (h.cl a ha' hay).imp (fun h' => by simp [h']) fun h' u hu => by simp [h' u hu]
theorem IW.close {n : Nat} {f : Nat → List Nat} {at_ : List Nat} {f' : Nat → List Nat} {l wk : List Nat} {y : Nat} (h : IW n f at_ f' y l wk) (hy : y < n) (hall : ∀ t ∈ f' y, t ∈ l) : IV n f at_ (fun s => if s = y then [] else f' s) l wk := by
  have hyl : ∀ t ∈ f y, t ∈ l := by
    rcases h.rows y hy with e | ⟨_, h2⟩
    · rw [← e]; exact hall
    · exact h2
  refine ⟨h.wlt, h.sound, h.win, fun a ha => ?_, fun a ha => ?_⟩
  · by_cases e : a = y
    · subst e; right; exact ⟨by simp, hyl⟩
    · simp only [if_neg e]; exact h.rows a ha
  · by_cases e : a = y
    · subst e; exact .inr hyl
    · exact h.cl a ha e
theorem IV.done {n : Nat} {f : Nat → List Nat} {at_ : List Nat} {f' : Nat → List Nat} {l : List Nat} (h : IV n f at_ f' l []) (t : Nat) : t ∈ l ↔ Itd f at_ t := by
  refine ⟨h.sound t, fun hi => ?_⟩
  induction hi with
  | first ha ht => exact ((h.cl _ (.inl ha)).resolve_left (by simp)) _ ht
  | more _ ht ih => exact ((h.cl _ (.inr ih)).resolve_left (by simp)) _ ht

set_option maxRecDepth 100000 in
set_option maxHeartbeats 8000000 in
theorem iterated_is (av : Option Addr) (cap blk off : Nat) (hd : Nat → Hdr) (g : List (List Nat)) (hgr : Right g) (A acap : Nat) (at_ : List Nat) (hat0 : 0 < at_.length) (hatl : at_.length ≤ 1000) (hatn : ∀ x ∈ at_, x < g.length) (w : World) (hG : GAt w av blk off hd (castG g)) (hA : A < w.heap.size) (hAc : ∀ k, k < at_.length → w.cell? ⟨A, 0 + k, none⟩ = some (.int .i64 ((at_.getD k 0 : Nat) : Int))) :
    Calls Try.prog 23 #[.slice av g.length cap, .slice (some ⟨A, 0, none⟩) at_.length acap] w fun e w' => Below w.heap.size w w' ∧ ∃ v d m' o f l, e = .returned v ∧ Walk g [0] (List.replicate g.length false) m' o ∧ Fin g o d ∧ IsFro g o d f ∧ w'.ownsRow w.heap.size 3 1 v l.length (intsV l) ∧ l.Pairwise (· < ·) ∧ ∀ t, t ∈ l ↔ Itd f at_ t := by
  have hone := hgr.one
  have hmost := hgr.most
  have HFR := hide (frontier_is av cap blk off hd g hgr w hG)
  have HAC := hide hAc
  have HATN := hide hatn
  clear hG hAc hatn
  go_enter Try.func23, Try.ntmps23
  go_wp2_with fail
  refine HFR.out.mono ?_
  clear HFR
  rintro e w1 ⟨hb1, RB, base, d, m', o, f, hRB1, hRB2, hRB3, rfl, hwk, hfin, hrows, hfro⟩
  have hord := ord_of hone hwk
  have HFLT : Hid (∀ a t, a < g.length → t ∈ f a → t < g.length) := fun a t ha ht => by
    obtain ⟨x, hx, h1, _⟩ := ((hfro a ha).2 t).1 ht
    exact hord.lt t (hord.cl x hx t h1)
  have HFL : Hid (∀ a, a < g.length → (f a).length ≤ g.length) := fun a ha => rising_len (hfro a ha).1 (fun t ht => HFLT.out a t ha ht)
  have hlens : lens g.length f ≤ 4096 * 4096 := Nat.le_trans (lens_le f g.length g.length HFL.out) (Nat.mul_le_mul hmost hmost)
  have hs1 := hb1.size
  have hmm := @run_makeMap Try.prog
  have hb2 : Below w1.heap.size w1 (w1.alloc (.map #[] 0)) := bel_new _ _
  have hs2 : (w1.alloc (.map #[] 0)).heap.size = w1.heap.size + 1 := World.size_alloc _ _
  have hm2 := SetMap.made w1
  have hr2 := hrows.top.turns (Turns.of_below hb2) (by omega) (fun b h1 h2 => by omega)
  have HCL := hide (clone_is A 0 acap at_ hatl (w1.alloc (.map #[] 0)) (by rw [hs2]; omega) (fun k hk => (hb2.cell (p := ⟨A, 0 + k, none⟩) (by show A < _; omega)).trans ((hb1.cell (p := ⟨A, 0 + k, none⟩) hA).trans (HAC.out k hk))))
  have HK := hide (And.intro hb2 (And.intro hs2 (And.intro hm2 hr2)))
  have HWK := hide hwk
  have HFIN := hide hfin
  have HFRO := hide hfro
  clear hb2 hs2 hm2 hr2 hrows hfro hfin hwk hord HAC
  go_wp2_with fail
  obtain ⟨hb2, hs2, hm2, hr2⟩ := HK.out
  clear HK hmm
  generalize w1.alloc (.map #[] 0) = w2 at *
  refine HCL.out.mono ?_
  clear HCL
  rintro e w3 ⟨v, rfl, hov, hb3⟩
  obtain ⟨gb, wcap, rfl, hgb1, hgb2⟩ := hov.form hat0
  have hm3 := hm2.on (hb3.block w1.heap.size (by omega))
  have hr3 := hr2.turns (Turns.of_below hb3) (by omega) (fun b h1 h2 => by omega)
  have hbw3 : Below w.heap.size w w3 := bel_two (bel_two hb1 hb2) hb3
  have hs3 := hb3.size
  have hIV0 : IV g.length f at_ f [] at_ := ⟨HATN.out, fun t ht => (by cases ht), fun x hx => .inl hx, fun a _ => .inl rfl, fun a ha => .inl (ha.resolve_right (by simp))⟩
  clear hb1 hb2 hb3 hm2 hr2
  rw [hs2] at hov hs3
  generalize hmb : w1.heap.size = mb at *
  clear hs2 hmb
  generalize hal : at_.length = al at *
  have HAL := hide hal
  clear hal
  have hov' : w3.ownsRow (mb + 1) 3 1 (.slice (some ⟨gb, 0, none⟩) al wcap) at_.length (intsV at_) := by rw [HAL.out]; exact hov
  clear hov
  go_wp2
  go_loopw [7] (fun v W => ∃ (f' : Nat → List Nat) (l wk : List Nat) (gb cap : Nat), v = .slice (some ⟨gb, 0, none⟩) wk.length cap ∧ Turns (fun b => b = RB ∨ mb ≤ b) w3 W ∧ SetMap W mb l ∧ RowsT W base mb RB g.length f' ∧ W.ownsRow (mb + 1) 3 1 (.slice (some ⟨gb, 0, none⟩) wk.length cap) wk.length (intsV wk) ∧ IV g.length f at_ f' l wk ∧ wk.length + lens g.length f' ≤ 20000000) (fun v W => lenV v + rowLens RB W)
  case atStart => exact ⟨f, [], at_, gb, wcap, by rw [HAL.out], Turns.refl _ _, hm3, hr3, by rw [HAL.out]; exact HAL.out ▸ hov', hIV0, by rw [HAL.out]; omega⟩
  case round =>
    clear hm3 hr3 hov' hIV0
    obtain ⟨f', l, wk, gb2, cap2, rfl, hT, hM, hR, hO, hIV, hwl⟩ := hrel
    have hsT := hT.size
    rcases List.eq_nil_or_concat wk with rfl | ⟨wk', y, rfl⟩
    · have HDONE := hide (fun t => hIV.done t)
      have hnd : l.Nodup := by obtain ⟨D, _, _, _, h, _⟩ := hM; exact h
      have HSO := hide (sorted_any mb l wr hM)
      have HKO := hide (keysOf_any (some mb) wr)
      have HND := hide hnd
      have hbW : Below w.heap.size w wr := hT.below hbw3 hbw3.size (fun b hb hq => by omega)
      clear hM hR hO hIV hT hnd
      simp only [List.length_nil]
      go_wp2_with fail
      refine HKO.out.mono ?_
      clear HKO
      rintro e w' ⟨rfl, rfl⟩
      go_wp2_with fail
      refine HSO.out.mono ?_
      clear HSO
      rintro e w5 ⟨v, rfl, hov5, hb5⟩
      have hb5' : Below wr.heap.size wr w5 := (bel_new wr _).trans (hb5.mono (by omega))
      have hsw := hbW.size
      have HOV := hide (owns_mono hov5 (base' := w.heap.size) (by omega))
      clear hov5
      go_wp2
      go_ret
      exact ⟨bel_two hbW hb5', _, d, m', o, f, risen l, rfl, HWK.out, HFIN.out, HFRO.out, HOV.out, risen_lt HND.out, fun t => (risen_mem l t).trans (HDONE.out t)⟩
    · rw [List.concat_eq_append] at *
      have hwl2 : (wk' ++ [y]).length = wk'.length + 1 := by simp
      have hyl := hIV.wlt y (by simp)
      have cy : wr.cell? ⟨gb2, wk'.length, none⟩ = some (.int .i64 (y : Int)) := by
        rw [hO.cellAt wk'.length (by rw [hwl2]; omega), intsV, List.map_append, List.getElem?_append_right (by simp)]; simp
      have hO2 := owns_pop hO
      have hcp : wk'.length ≤ cap2 := by obtain ⟨av', cap', he, hc⟩ := owns_shape hO2; injection he with _ _ he3; omega
      obtain ⟨kav, kcap, ck, hrow⟩ := hR.cell y hyl
      have HRL := hide (rowLens_is hR)
      have HIW := hide hIV.pop
      have HIB := hide (isBlockR_is RB g.length g.length y hyl wr)
      have HRW : Hid (∀ W, Turns (fun b => b = mb ∨ mb + 1 ≤ b) wr W → RowsT W base mb RB g.length f' ∧ ∀ j, j < (f' y).length → ∃ kb, kav = some ⟨kb, 0, none⟩ ∧ W.cell? ⟨kb, j, none⟩ = some (.int .i64 (((f' y).getD j 0 : Nat) : Int))) := fun W ht => ⟨hR.turns ht (by omega) (fun b h1 h2 => by omega), fun j hj => by
        obtain ⟨kb, k1, k2, k3, k4⟩ := hrow j hj
        exact ⟨kb, k1, (World.cell?_of_block (a := ⟨kb, j, none⟩) (ht.block kb (by omega) (by show ¬ (kb = mb ∨ mb + 1 ≤ kb); omega))).trans k4⟩⟩
      have HFY : Hid (∀ j, j < (f' y).length → (f' y).getD j 0 ∈ f' y ∧ (f' y).getD j 0 < g.length) := fun j hj => by
        have hm := getD_mem (f' y) j hj
        refine ⟨hm, ?_⟩
        rcases hIV.rows y hyl with e | ⟨e, _⟩
        · exact HFLT.out y _ hyl (by rw [← e]; exact hm)
        · rw [e] at hm; cases hm
      have HALL : Hid (∀ t ∈ f' y, ∃ j, j < (f' y).length ∧ (f' y).getD j 0 = t) := fun t ht => by
        obtain ⟨j, hj, e⟩ := List.getElem_of_mem ht
        exact ⟨j, hj, by rw [List.getD_eq_getElem?_getD, List.getElem?_eq_getElem hj]; exact e⟩
      have hfyl : (f' y).length ≤ 4096 := by
        rcases hIV.rows y hyl with e | ⟨e, _⟩
        · rw [e]; exact Nat.le_trans (HFL.out y hyl) hmost
        · rw [e]; simp
      have hld := lens_drop f' y g.length
      rw [if_pos hyl] at hld
      have HLD := hide hld
      clear hld
      have HIN : Hid (SetMap wr mb l ∧ wr.ownsRow (mb + 1) 3 1 (.slice (some ⟨gb2, 0, none⟩) wk'.length cap2) wk'.length (intsV wk')) := ⟨hM, hO2⟩
      have hyi : ((y : Int) < (g.length : Int)) = True := eq_true (by omega)
      have hyb : y ≤ 4096 := by omega
      rw [hwl2]
      have hwb : wk'.length + 1 + lens g.length f' ≤ 20000000 := by rw [hwl2] at hwl; omega
      have g1 : ((0 : Int) < (wk'.length : Int) + 1) = True := eq_true (by omega)
      have g2 : (0 < wk'.length + 1) = True := eq_true (by omega)
      have g3 : ((wk'.length : Int) ≤ (cap2 : Int)) = True := eq_true (by omega)
      have g4 : (wk'.length ≤ cap2) = True := eq_true (by omega)
      clear hM hR hO hO2 hIV hrow hwl2 hwl
      generalize hks : f' y = ks at *
      have HKS := hide hks
      clear hks
      generalize hkn : ks.length = kn at *
      have HKN := hide hkn
      clear hkn
      go_wp2_with fail
      refine HIB.out.mono ?_
      clear HIB
      rintro e w' ⟨rfl, rfl⟩
      go_wp2
      go_loopw [41, 7] (fun i v W => ∃ (j : Nat) (l2 wk2 : List Nat) (gb cap : Nat), i = .int .i64 j ∧ j ≤ kn ∧ v = .slice (some ⟨gb, 0, none⟩) wk2.length cap ∧ Turns (fun b => b = mb ∨ mb + 1 ≤ b) w' W ∧ SetMap W mb l2 ∧ W.ownsRow (mb + 1) 3 1 (.slice (some ⟨gb, 0, none⟩) wk2.length cap) wk2.length (intsV wk2) ∧ IW g.length f at_ f' y l2 wk2 ∧ wk2.length ≤ wk'.length + j ∧ ∀ p, p < j → ks.getD p 0 ∈ l2) (fun i _ _ => kn - (intOf i).toNat)
      case atStart => exact ⟨0, l, wk', gb2, cap2, rfl, Nat.zero_le _, rfl, Turns.refl _ _, HIN.out.1, HIN.out.2, HIW.out, Nat.le_refl _, fun p hp => absurd hp (Nat.not_lt_zero _)⟩
      case round =>
        clear HIN HIW cy ck
        obtain ⟨j, l2, wk2, gb3, cap3, rfl, hj, rfl, hT2, hM2, hO2, hI2, hle2, hks2⟩ := hrel
        have hsT2 := hT2.size
        by_cases hjl : j < kn
        · have e1 : ((j : Int) < (kn : Int)) = True := eq_true (by omega)
          obtain ⟨kb, hkav, cj⟩ := (HRW.out wr hT2).2 j hjl
          obtain ⟨hxm, hxl⟩ := HFY.out j hjl
          have hxb : ks.getD j 0 ≤ 4096 := by omega
          subst hkav
          by_cases hin : ks.getD j 0 ∈ l2
          · have hlk := hM2.look (ks.getD j 0) hxb
            rw [decide_eq_true hin] at hlk
            have hTa : Turns (fun b => b = mb ∨ mb + 1 ≤ b) wr (wr.alloc (.cells #[] 54)) := Turns.alloc _ _ _
            have HOUT : Hid (Turns (fun b => b = mb ∨ mb + 1 ≤ b) w' (wr.alloc (.cells #[] 54)) ∧ SetMap (wr.alloc (.cells #[] 54)) mb l2 ∧ (wr.alloc (.cells #[] 54)).ownsRow (mb + 1) 3 1 (.slice (some ⟨gb3, 0, none⟩) wk2.length cap3) wk2.length (intsV wk2) ∧ IW g.length f at_ f' y l2 wk2 ∧ wk2.length ≤ wk'.length + (j + 1) ∧ ∀ p, p < j + 1 → ks.getD p 0 ∈ l2) :=
              ⟨hT2.trans hTa, hM2.on (Below.heap_alloc _ _ _ hM2.lt), owns_turns hO2 (Turns.alloc (fun _ => False) _ _) (fun _ _ h => h), hI2, by omega, fun p hp => by
                rcases Nat.lt_or_ge p j with h | h
                · exact hks2 p h
                · obtain rfl : p = j := by omega
                  exact hin⟩
            clear hks2 hI2 hO2 hM2 hTa hin hxm
            generalize ks.getD j 0 = x at *
            go_wp2
            go_roundw
            case rel =>
              obtain ⟨a1, a2, a3, a4, a5, a6⟩ := HOUT.out
              exact ⟨j + 1, l2, wk2, gb3, cap3, by go_num, by omega, rfl, a1, a2, a3, a4, a5, a6⟩
            case measure => simp [intOf]; omega
          · have hlk := hM2.look (ks.getD j 0) hxb
            rw [decide_eq_false hin] at hlk
            have hTa : Turns (fun b => b = mb ∨ mb + 1 ≤ b) wr (wr.alloc (.cells #[] 54)) := Turns.alloc _ _ _
            have hOa : (wr.alloc (.cells #[] 54)).ownsRow (mb + 1) 3 1 (.slice (some ⟨gb3, 0, none⟩) wk2.length cap3) wk2.length (intsV wk2) := owns_turns hO2 (Turns.alloc (fun _ => False) _ _) (fun _ _ h => h)
            have hMa : SetMap (wr.alloc (.cells #[] 54)) mb l2 := hM2.on (Below.heap_alloc _ _ _ hM2.lt)
            obtain ⟨Wu, hU, hgu, hMu⟩ := hMa.add (ks.getD j 0) hxb hin
            have hTu : Turns (fun b => b = mb) (wr.alloc (.cells #[] 54)) Wu := ⟨hgu.os, hgu.tape, hgu.output, hgu.size, fun b hb hn => hgu.block b hb (fun e => hn (by cases e; rfl))⟩
            have hOu := owns_turns hOa hTu (fun b hb e => by have := (hOa.lt b hb).1; omega)
            have hzu := hTu.size
            rw [World.size_alloc] at hzu
            obtain ⟨g9, c9, W9, hap, ho9, hT9⟩ := int_more hOu (ks.getD j 0) 25 (by omega) (by omega)
            have hM9 := hMu.on (hT9.block mb hMu.lt (by show ¬ mb + 1 ≤ mb; omega))
            have HOUT : Hid (Turns (fun b => b = mb ∨ mb + 1 ≤ b) w' W9 ∧ SetMap W9 mb (l2 ++ [ks.getD j 0]) ∧ W9.ownsRow (mb + 1) 3 1 (.slice (some ⟨g9, 0, none⟩) (wk2.length + 1) c9) (wk2 ++ [ks.getD j 0]).length (intsV (wk2 ++ [ks.getD j 0])) ∧ IW g.length f at_ f' y (l2 ++ [ks.getD j 0]) (wk2 ++ [ks.getD j 0]) ∧ (wk2 ++ [ks.getD j 0]).length ≤ wk'.length + (j + 1) ∧ ∀ p, p < j + 1 → ks.getD p 0 ∈ l2 ++ [ks.getD j 0]) :=
              ⟨hT2.trans (hTa.trans ((hTu.mono fun b hb => .inl hb).trans (hT9.mono fun b hb => .inr hb))), hM9, ho9, hI2.put hyl (by rw [HKS.out]; exact hxm) hxl, by rw [List.length_append, List.length_singleton]; omega, fun p hp => by
                rcases Nat.lt_or_ge p j with h | h
                · exact List.mem_append_left _ (hks2 p h)
                · obtain rfl : p = j := by omega
                  simp⟩
            have HAP := hide hap
            clear hks2 hI2 hO2 hM2 hTa hin hxm hOa hMa hgu hMu hTu hOu hzu hap ho9 hT9 hM9
            generalize ks.getD j 0 = x at *
            generalize hw2 : wk2.length = wl at *
            have HWL : Hid ((wk2 ++ [x]).length = wl + 1) := by rw [Hid, List.length_append, hw2]; rfl
            clear hw2
            go_wp2_with (at_builtin; refine wpList_append_run rfl _ _ 25 rfl rfl rfl HAP.out ?_)
            go_roundw
            case rel =>
              obtain ⟨a1, a2, a3, a4, a5, a6⟩ := HOUT.out
              exact ⟨j + 1, l2 ++ [x], wk2 ++ [x], g9, c9, by go_num, by omega, by rw [HWL.out], a1, a2, by rw [HWL.out] at a3 ⊢; exact a3, a4, a5, a6⟩
            case measure => simp [intOf]; omega
        · have e1 : ((j : Int) < (kn : Int)) = False := eq_false (by omega)
          have hR2 := (HRW.out wr hT2).1
          obtain ⟨av9, cap9, cR, -⟩ := hR2.cell y hyl
          have fR := hR2.frozen y
          have hdrop := hR2.drop y hyl (by omega)
          have hclose := hI2.close hyl (fun t ht => by
            rw [HKS.out] at ht
            obtain ⟨p, hp, e⟩ := HALL.out t ht
            rw [← e]
            exact hks2 p (by omega))
          have hTs : Turns (fun b => b = RB) wr (wr.setCell ⟨RB, y, none⟩ (.slice none 0 0)) := Turns.setCell _ _ _ rfl
          have HOUT : Hid (Turns (fun b => b = RB ∨ mb ≤ b) w3 (wr.setCell ⟨RB, y, none⟩ (.slice none 0 0)) ∧ SetMap (wr.setCell ⟨RB, y, none⟩ (.slice none 0 0)) mb l2 ∧ RowsT (wr.setCell ⟨RB, y, none⟩ (.slice none 0 0)) base mb RB g.length (fun s => if s = y then [] else f' s) ∧ (wr.setCell ⟨RB, y, none⟩ (.slice none 0 0)).ownsRow (mb + 1) 3 1 (.slice (some ⟨gb3, 0, none⟩) wk2.length cap3) wk2.length (intsV wk2) ∧ IV g.length f at_ (fun s => if s = y then [] else f' s) l2 wk2 ∧ wk2.length + lens g.length (fun s => if s = y then [] else f' s) ≤ 20000000) :=
            ⟨(hT.trans (hT2.mono fun b hb => .inr (by omega))).trans (hTs.mono fun b hb => .inl hb), hM2.on (hTs.block mb hM2.lt (by show ¬ mb = RB; omega)), hdrop, owns_turns hO2 hTs (fun b hb e => by have := (hO2.lt b hb).1; omega), hclose, by have := HLD.out; omega⟩
          have HMU : Hid (wk2.length + rowLens RB (wr.setCell ⟨RB, y, none⟩ (.slice none 0 0)) < wk'.length + 1 + rowLens RB w') := by
            rw [Hid, rowLens_is hdrop, HRL.out]
            have := HLD.out
            omega
          clear hdrop hclose hTs hR2 hks2 hI2 hO2 hM2 HRL HLD
          go_wp2
          go_roundw
          case rel =>
            obtain ⟨a1, a2, a3, a4, a5, a6⟩ := HOUT.out
            exact ⟨_, l2, wk2, gb3, cap3, rfl, a1, a2, a3, a4, a5, a6⟩
          case measure => exact HMU.out
end Go.Proofs.Ytonoeodlchkiaaa
