/-
  Rows of rows (layer 8), sorted by slices.SortFunc: the same rows, in another order.
-/
import Derived.Test.YtcebidhfgdchlaaCtA
import Derived.Test.YtcebidhfgdchlaaCtB
import Derived.Test.YtcebidhfgdchlaaShelfF
import Derived.Shelf.SlSortCmp.NoneTotal
namespace Go.Proofs.Ytcebidhfgdchlaa
open Go.ChangeShapes Go.WideShapes Go.ChangeAt Go.RowKit Go.Shelf Go.Sort

/-- A row's place, whatever number is asked. -/
def pl (n i : Nat) : Nat := if i < n then i else 0
theorem pl_lt {n : Nat} (hn : 0 < n) (i : Nat) : pl n i < n := by unfold pl; split <;> omega
theorem pl_of {n i : Nat} (h : i < n) : pl n i = i := if_pos h
def encR (vs : List Value) (i : Nat) : Value := vs.getD (pl vs.length i) (.slice none 0 0)
def hd (xss : List (List Int)) (i : Nat) : Int := (xss.getD (pl xss.length i) []).getD 0 0
def cfR (xss : List (List Int)) (i j : Nat) : Int := Lib.compareInt (hd xss i) (hd xss j)
theorem swoR (xss : List (List Int)) : SWO (ltOf (cfR xss)) := by
  have h : ∀ i j, ltOf (cfR xss) i j = decide (hd xss i < hd xss j) := fun i j => by
    unfold ltOf cfR Lib.compareInt
    by_cases h1 : hd xss i < hd xss j
    · simp [h1]
    · by_cases h2 : hd xss j < hd xss i
      · simp [h1, h2]
      · simp [h1, h2]
  exact ⟨fun x => by simp [h], fun x y z => by simp only [h, decide_eq_true_eq]; omega, fun x y z => by simp only [h, decide_eq_false_iff_not]; omega⟩

section
variable {α : Type} [Inhabited α]
theorem holds_gen {enc : α → Value} {w : World} {g : Nat} {cur : Array Value} {e : TypeId} {ss : List α} (hb : w.heap[g]? = some (.cells cur e (0, 0))) (ht : cur.toList.take ss.length = ss.map enc) : Holds enc w g 0 ss.toArray := fun j hj => by
  have hj2 : j < ss.length := by simpa using hj
  refine ⟨?_, frozen_of hb _⟩
  rw [Nat.zero_add, cell_of hb]
  have h1 := congrArg (fun l => l[j]?) ht
  simp only [List.getElem?_take_of_lt hj2, List.getElem?_map, Array.getElem?_toList] at h1
  rw [h1]
  simp [hj2]
theorem heap_gen {enc : α → Value} {w : World} {g n : Nat} {os : Array Obj} {cur : Array Value} {e : TypeId} {fr : Nat × Nat} (d : Array α) (hb : w.heap[g]? = some (.cells cur e fr)) : (sortWorld enc w g 0 n d os).heap[g]? = some (.cells (putCells enc 0 d cur) e fr) := by
  unfold sortWorld
  rw [heap_grow_old _ _ (by simpa using lt_of hb)]
  simp [putRow, mapBlock, Sort.ahead, Array.getElem?_modify, hb, onCells]
theorem turns_gen {enc : α → Value} {w : World} {g n : Nat} {os : Array Obj} (d : Array α) : Turns (fun b => g = b) w (sortWorld enc w g 0 n d os) := by
  unfold sortWorld
  refine ⟨rfl, rfl, rfl, by simp, fun k hk hne => ?_⟩
  rw [heap_grow_old _ _ (by simpa using hk)]
  have : g ≠ k := hne
  simp [putRow, mapBlock, Sort.ahead, Array.getElem?_modify, this]
theorem take_gen {enc : α → Value} (cur : Array Value) (ts : List α) (h : ts.length ≤ cur.size) : (putCells enc 0 ts.toArray cur).toList.take ts.length = ts.map enc := by
  apply List.ext_getElem?
  intro j
  by_cases hj : j < ts.length
  · rw [List.getElem?_take_of_lt hj, Array.getElem?_toList]
    simp [putCells, hj, show j < cur.size by omega]
  · rw [List.getElem?_take_eq_none (by omega), List.getElem?_eq_none (by simp; omega)]
end

theorem heap_turn {W W' : World} {Q : Nat → Prop} (ht : Turns Q W W') {b o : Nat} (hb : b < W.heap.size) (hq : ¬ Q b) : W'.cell? ⟨b, o, none⟩ = W.cell? ⟨b, o, none⟩ := by
  simp only [World.cell?, ht.block b hb hq]

theorem sort_rows (base : Nat) (v : Value) (xss : List (List Int)) (hne : ∀ i, i < xss.length → 0 < (xss.getD i []).length) (hl : xss.length ≤ 1000000) (W : World) (h : RowsI W base v xss) :
    Calls Try.prog 44 #[v, .func (.func 45) #[] #[]] W fun e w' => e = .returned (.tuple #[]) ∧ ∃ yss : List (List Int), yss.Perm xss ∧ RowsI w' base v yss ∧ Turns (fun b => v.ownBlock = some b) W w' := by
  by_cases hn : xss.length = 0
  · have hx : xss = [] := List.length_eq_zero_iff.1 hn
    subst hx
    obtain ⟨vs, h1, _⟩ := id h
    obtain ⟨av, cap, rfl, _⟩ := owns_shape h1
    have hc := AnyF.slices_SortFunc_none (P := Try.prog) (ρ := Try.laysF44_ren) { Try.laysF44 with } av cap (.func (.func 45) #[] #[]) W
    refine hc.mono ?_
    rintro e w' ⟨rfl, rfl⟩
    exact ⟨rfl, [], List.Perm.refl _, h, Turns.refl _ _⟩
  · have hp : 0 < xss.length := by omega
    obtain ⟨vs, h1, h2, h3⟩ := h
    have hvl : vs.length = xss.length := by have := h1.1; omega
    rcases h1.2 with ⟨_, h0⟩ | ⟨g, cap, cur, rfl, hbase, hg, hcap, hmax, hsz, htk⟩
    · omega
    rw [Nat.mul_one] at htk
    have row : ∀ i, ∃ b c, encR vs i = .slice (some ⟨b, 0, none⟩) (xss.getD (pl xss.length i) []).length c ∧ b ≠ g ∧ b < W.heap.size ∧ W.cell? ⟨b, 0, none⟩ = some (.int .i64 (hd xss i)) := fun i => by
      have hi := pl_lt hp i
      obtain ⟨u, hu, ho⟩ := h2 _ hi
      have hpos := hne _ hi
      obtain ⟨b, c, rfl, _, hb⟩ := ho.form (by omega)
      refine ⟨b, c, ?_, ?_, hb, ?_⟩
      · unfold encR
        rw [hvl, List.getD_eq_getElem?_getD, hu]; rfl
      · rintro rfl
        rcases ho.2 with ⟨e, _⟩ | ⟨g1, c1, cur1, e, _, e1, _⟩
        · cases e
        · injection e with e2
          injection e2 with e2
          injection e2 with e2
          subst e2
          rw [hg] at e1
          injection e1 with e1
          injection e1 with e1 e3
          exact absurd e3 (by decide)
      · have hk := ho.cellAt 0 (by simpa using hpos)
        clear ho hu
        unfold hd
        generalize xss.getD (pl xss.length i) [] = l at hk hpos ⊢
        refine hk.trans ?_
        rw [List.getElem?_map, List.getD_eq_getElem?_getD, List.getElem?_eq_getElem hpos]
        rfl
    have hH : Holds (encR vs) W g 0 (List.range xss.length).toArray := holds_gen hg (by
      rw [List.length_range, htk]
      apply List.ext_getElem?
      intro j
      by_cases hj : j < vs.length
      · rw [List.getElem?_map, List.getElem?_range (by omega)]
        simp [encR, pl_of hj, hj]
      · rw [List.getElem?_eq_none (by omega), List.getElem?_eq_none (by simp; omega)])
    have hcmp : CmpReads Try.prog 45 #[] (encR vs) (cfR xss) g 0 (List.range xss.length).toArray.size W := fun m os dk hs x y => by
      obtain ⟨b1, c1, e1, n1, l1, k1⟩ := row x
      obtain ⟨b2, c2, e2, n2, l2, k2⟩ := row y
      have hT := turns_gen (enc := encR vs) (w := W) (g := g) (n := m) (os := os) dk
      rw [e1, e2]
      exact less_is b1 b2 _ _ c1 c2 (hd xss x) (hd xss y) (hne _ (pl_lt hp x)) (hne _ (pl_lt hp y)) _ ((heap_turn hT l1 (fun e => n1 e.symm)).trans k1) ((heap_turn hT l2 (fun e => n2 e.symm)).trans k2)
    have hone : OneCell (encR vs) := fun i => by obtain ⟨b, c, e, _⟩ := row i; rw [e]; rfl
    have hc := Any.slices_SortFunc (P := Try.prog) (ρ := Try.laysF44_ren) Try.laysF44 (encR vs) hone (cfR xss) (swoR xss) 45 #[] g 0 cap (List.range xss.length).toArray W (enters_of Try.func45 (by kernel_rfl) rfl) hcmp.lays hH (lt_of hg) (by simp; omega)
    rw [show (List.range xss.length).toArray.size = xss.length by simp] at hc
    refine hc.mono ?_
    rintro e w' ⟨rfl, d', n, os, hperm, -, rfl⟩
    obtain ⟨hds, -, hpm⟩ := hperm
    have hds2 : d'.size = xss.length := by rw [hds]; simp
    have hpm2 : d'.toList.Perm (List.range xss.length) := by
      have e1 : d'.extract 0 xss.length = d' := by rw [← hds2]; exact Array.extract_size
      have e2 : (List.range xss.length).toArray.extract 0 xss.length = (List.range xss.length).toArray := by
        have : (List.range xss.length).toArray.size = xss.length := by simp
        conv => lhs; rw [← this]
        simp
      rw [e1, e2] at hpm
      exact hpm
    have hlt : ∀ i, i ∈ d'.toList → i < xss.length := fun i hi => List.mem_range.1 (hpm2.mem_iff.1 hi)
    have hself : (List.range xss.length).map (fun i => xss.getD i []) = xss := by
      apply List.ext_getElem?
      intro j
      by_cases hj : j < xss.length
      · rw [List.getElem?_map, List.getElem?_range hj]; simp [hj]
      · rw [List.getElem?_eq_none (by simp; omega), List.getElem?_eq_none (by omega)]
    have hT := turns_gen (enc := encR vs) (w := W) (g := g) (n := n) (os := os) d'
    have hdl : d'.toList.length = xss.length := by simpa using hds2
    refine ⟨rfl, d'.toList.map (fun i => xss.getD i []), ?_, ⟨d'.toList.map (encR vs), ?_, fun i hi => ?_, ?_⟩, hT.mono fun b hb => by subst hb; rfl⟩
    · have := hpm2.map (fun i => xss.getD i [])
      rw [hself] at this
      exact this
    · rw [List.length_map, hdl]
      refine ⟨by simp [hdl], .inr ⟨g, cap, _, rfl, hbase, heap_gen d' hg, hcap, hmax, by simp [putCells, hsz], ?_⟩⟩
      have := take_gen (enc := encR vs) cur d'.toList (by rw [hdl]; omega)
      rw [hdl] at this
      rw [Nat.mul_one]
      simpa using this
    · rw [List.length_map, hdl] at hi
      have hi2 : i < d'.toList.length := by omega
      have hm := hlt _ (List.getElem_mem hi2)
      obtain ⟨u, hu, ho⟩ := h2 _ hm
      have hget : (d'.toList.map (fun i => xss.getD i [])).getD i [] = xss.getD d'.toList[i] [] := by
        rw [List.getD_eq_getElem?_getD, List.getElem?_map, List.getElem?_eq_getElem hi2]; rfl
      rw [hget]
      refine ⟨u, ?_, owns_turns ho hT (fun b hb e => ?_)⟩
      · rw [List.getElem?_map, List.getElem?_eq_getElem hi2]
        simp only [Option.map_some, encR, hvl, pl_of hm]
        rw [List.getD_eq_getElem?_getD, hu]; rfl
      · obtain ⟨b1, c1, e1, n1, _⟩ := row d'.toList[i]
        have : encR vs d'.toList[i] = u := by
          simp only [encR, hvl, pl_of hm]
          rw [List.getD_eq_getElem?_getD, hu]; rfl
        rw [this] at e1
        subst e1
        have : b1 = b := by simpa [Value.ownBlock] using hb
        exact n1 (this.trans e.symm)
    · intro i j x y hij hx hy b hb
      rw [List.getElem?_map] at hx hy
      obtain ⟨p, hpx, rfl⟩ := Option.map_eq_some_iff.1 hx
      obtain ⟨q, hqx, rfl⟩ := Option.map_eq_some_iff.1 hy
      have hpl := hlt p (List.mem_of_getElem? hpx)
      have hql := hlt q (List.mem_of_getElem? hqx)
      have hnd : d'.toList.Nodup := hpm2.nodup_iff.2 List.nodup_range
      have hpq : p ≠ q := by
        rintro rfl
        obtain ⟨i1, e1⟩ := List.getElem?_eq_some_iff.1 hpx
        obtain ⟨j1, e2⟩ := List.getElem?_eq_some_iff.1 hqx
        exact hij ((List.getElem_inj hnd).1 (e1.trans e2.symm))
      have get : ∀ r, r < xss.length → vs[r]? = some (encR vs r) := fun r hr => by
        simp only [encR, hvl, pl_of hr]
        rw [List.getD_eq_getElem?_getD, List.getElem?_eq_getElem (by omega)]; rfl
      exact h3 p q _ _ hpq (get p hpl) (get q hql) b hb

end Go.Proofs.Ytcebidhfgdchlaa
