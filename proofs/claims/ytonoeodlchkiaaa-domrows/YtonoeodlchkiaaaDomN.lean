/-
  Rows of idom, held against edges one by one (layer 7): what a sweep keeps, and that it comes to an end. No program is named.
-/
import Derived.Test.YtonoeodlchkiaaaMeet
namespace Go.Proofs.Ytonoeodlchkiaaa

theorem edO_mem (g : List (List Nat)) (l : List Nat) (i j k t : Nat) (hj : j < i) (hi : i ≤ l.length) (ht : t ∈ g.getD (l.getD j 0) []) : (l.getD j 0, t) ∈ edO g l i k := by
  unfold edO
  refine List.mem_append.2 (.inl (List.mem_flatMap.2 ⟨l.getD j 0, ?_, List.mem_map.2 ⟨t, ht, rfl⟩⟩))
  rw [List.getD_eq_getElem?_getD, List.getElem?_eq_getElem (by omega)]
  exact List.mem_take_iff_getElem.2 ⟨j, by omega, rfl⟩
theorem plc_getD (l : List Nat) (hn : l.Nodup) (i : Nat) (hi : i < l.length) : plc l (l.getD i 0) = i + 1 := by
  have e : l.getD i 0 = l[i] := by rw [List.getD_eq_getElem?_getD, List.getElem?_eq_getElem hi]; rfl
  unfold plc
  rw [e, if_pos (List.getElem_mem hi), hn.idxOf_getElem i hi]
theorem getD_of_mem (l : List Nat) (x : Nat) (hx : x ∈ l) : l.getD (plc l x - 1) 0 = x ∧ plc l x - 1 < l.length := by
  have hlt := List.idxOf_lt_length_of_mem hx
  unfold plc
  rw [if_pos hx, Nat.add_sub_cancel]
  exact ⟨by rw [List.getD_eq_getElem?_getD, List.getElem?_eq_getElem hlt, List.getElem_idxOf]; rfl, hlt⟩

/-- How much may still be taken out. -/
def mu (n : Nat) (l : List Nat) (d : List Int) : Nat := (d.map fun v => if v = -1 then n + 2 else plc l v.toNat).sum
theorem sum_set (L : List Nat) (i v : Nat) (h : i < L.length) : (L.set i v).sum + L.getD i 0 = L.sum + v := by
  induction L generalizing i with
  | nil => simp at h
  | cons a L ih =>
    cases i with
    | zero => simp; omega
    | succ i =>
      have := ih i (by simpa using h)
      simp only [List.set_cons_succ, List.sum_cons, List.getD_cons_succ]
      omega
theorem mu_set (n : Nat) (l : List Nat) (d : List Int) (t c : Nat) (ht : t < d.length) (h : plc l c < (if ask d t = -1 then n + 2 else plc l (ask d t).toNat)) : mu n l (d.set t (c : Int)) < mu n l d := by
  unfold mu
  rw [List.map_set]
  have h1 := sum_set (d.map fun v => if v = -1 then n + 2 else plc l v.toNat) t (if (c : Int) = -1 then n + 2 else plc l (c : Int).toNat) (by simpa using ht)
  have h2 : (d.map fun v => if v = -1 then n + 2 else plc l v.toNat).getD t 0 = if ask d t = -1 then n + 2 else plc l (ask d t).toNat := by
    unfold ask
    rw [List.getD_eq_getElem?_getD, List.getD_eq_getElem?_getD, List.getElem?_map, List.getElem?_eq_getElem ht]; rfl
  rw [h2, if_neg (by omega), Int.toNat_natCast] at h1
  rw [if_neg (by omega), Int.toNat_natCast]
  omega

/-- What a sweep over edges has done. -/
structure NS (g : List (List Nat)) (o : List Nat) (d0 : List Int) (s : List (Nat × Nat)) (d : List Int) (ch : Bool) : Prop where
  tr : Tr g o d
  def_ : ∀ e ∈ s, e.2 ≠ 0 → ask d e.2 ≠ -1
  keep : ch = false → d = d0 ∧ ∀ e ∈ s, e.2 ≠ 0 → ∀ y : Nat, ask d0 e.2 = (y : Int) → Anc d0 e.1 y
  less : ch = true → mu g.length o.reverse d < mu g.length o.reverse d0
theorem ns_start {g : List (List Nat)} {o : List Nat} {d : List Int} (h : Tr g o d) : NS g o d [] d false := ⟨h, fun e he => (by cases he), fun _ => ⟨rfl, fun e he => (by cases he)⟩, fun h => (by cases h)⟩
/-- What is known at an edge. -/
structure At (g : List (List Nat)) (o : List Nat) (s : List (Nat × Nat)) (d : List Int) (f t : Nat) : Prop where
  told : Told o d f
  edge : t ∈ g.getD f []
  fresh : t ≠ 0 → ask d t = -1 → plc o.reverse f < plc o.reverse t
theorem NS.at_ {g : List (List Nat)} {o : List Nat} (ho : Ord g o) {d0 : List Int} {s : List (Nat × Nat)} {d : List Int} {ch : Bool} (h : NS g o d0 s d ch) {f t : Nat} (hv : nextO g o.reverse s (f, t)) : At g o s d f t := by
  obtain ⟨i, k, hi, hk, hs, e⟩ := hv
  have hf : f = o.reverse.getD i 0 := (Prod.mk.inj e).1
  have ht : t = (g.getD f []).getD k 0 := by rw [hf]; exact (Prod.mk.inj e).2
  rw [← hf] at hk
  have hnd : o.reverse.Nodup := by
    unfold List.Nodup
    rw [List.pairwise_reverse]
    exact List.Pairwise.imp (fun h => h.symm) ho.nodup
  have hfo : f ∈ o := by rw [hf]; exact List.mem_reverse.1 (getD_mem _ _ hi)
  have hpf : plc o.reverse f = i + 1 := by rw [hf]; exact plc_getD _ hnd i hi
  have hte : t ∈ g.getD f [] := by rw [ht]; exact getD_mem _ _ hk
  have before : ∀ u x, u ∈ o → x ∈ g.getD u [] → plc o.reverse u < plc o.reverse f → (u, x) ∈ s := fun u x hu hx hl => by
    obtain ⟨g1, g2⟩ := getD_of_mem o.reverse u (List.mem_reverse.2 hu)
    have hp := (ho.pos u).1 hu
    rw [hs]
    have := edO_mem g o.reverse i (plc o.reverse u - 1) k x (by omega) (by omega) (by rw [g1]; exact hx)
    rwa [g1] at this
  refine ⟨⟨hfo, ?_⟩, hte, fun h0 hn => ?_⟩
  · by_cases h0 : f = 0
    · exact .inl h0
    · obtain ⟨u, hu, hx, hl⟩ := ho.par f hfo h0
      exact .inr (h.def_ (u, f) (before u f hu hx hl) h0)
  · apply Classical.byContradiction
    intro hge
    obtain ⟨u, hu, hx, hl⟩ := ho.par t (ho.cl f hfo t hte) h0
    exact h.def_ (u, t) (before u t hu hx (by omega)) h0 hn
/-- An edge to the entry. -/
theorem NS.skip {g : List (List Nat)} {o : List Nat} {d0 : List Int} {s : List (Nat × Nat)} {d : List Int} {ch : Bool} (h : NS g o d0 s d ch) (f : Nat) : NS g o d0 (s ++ [(f, 0)]) d ch := by
  refine ⟨h.tr, fun e he h0 => ?_, fun hc => ⟨(h.keep hc).1, fun e he h0 => ?_⟩, h.less⟩
  · rcases List.mem_append.1 he with he | he
    · exact h.def_ e he h0
    · simp at he; subst he; exact absurd rfl h0
  · rcases List.mem_append.1 he with he | he
    · exact (h.keep hc).2 e he h0
    · simp at he; subst he; exact absurd rfl h0
/-- An edge that changes nothing. -/
theorem NS.stay {g : List (List Nat)} {o : List Nat} {d0 : List Int} {s : List (Nat × Nat)} {d : List Int} {ch : Bool} (h : NS g o d0 s d ch) {f t y : Nat} (hy : ask d t = (y : Int)) (ha : Anc d f y) : NS g o d0 (s ++ [(f, t)]) d ch := by
  refine ⟨h.tr, fun e he h0 => ?_, fun hc => ⟨(h.keep hc).1, fun e he h0 y' hy' => ?_⟩, h.less⟩
  · rcases List.mem_append.1 he with he | he
    · exact h.def_ e he h0
    · simp at he; subst he; show ask d t ≠ -1; omega
  · rcases List.mem_append.1 he with he | he
    · exact (h.keep hc).2 e he h0 y' hy'
    · simp at he; subst he
      have hd := (h.keep hc).1
      subst hd
      have : y' = y := by have h1 : ask d t = (y' : Int) := hy'; omega
      subst this
      exact ha
/-- An edge that takes one out, or tells of a block for the first time. -/
theorem NS.put {g : List (List Nat)} {o : List Nat} (ho : Ord g o) {d0 : List Int} {s : List (Nat × Nat)} {d : List Int} {ch : Bool} (h : NS g o d0 s d ch) {f t c : Nat} (ha : At g o s d f t) (h0 : t ≠ 0) (hc : Anc d f c) (hlt : plc o.reverse c < plc o.reverse t) (hdm : ∀ a, a ≠ t → Dom g a t → Dom g a c) (hmu : plc o.reverse c < (if ask d t = -1 then g.length + 2 else plc o.reverse (ask d t).toNat)) : NS g o d0 (s ++ [(f, t)]) (d.set t (c : Int)) true := by
  have htl : t < d.length := by rw [h.tr.len]; exact ho.lt t (ho.cl f ha.told.1 t ha.edge)
  have hm := mu_set g.length o.reverse d t c htl hmu
  refine ⟨h.tr.put ho ha.told ha.edge h0 hc hlt hdm, fun e he he0 => ?_, fun hf => (by cases hf), fun _ => ?_⟩
  · rw [ask_set _ _ _ _ htl]
    by_cases e1 : e.2 = t
    · rw [if_pos e1]; omega
    · rw [if_neg e1]
      rcases List.mem_append.1 he with he | he
      · exact h.def_ e he he0
      · simp at he; subst he; exact absurd rfl e1
  · cases ch with
    | false => rw [← (h.keep rfl).1]; exact hm
    | true => have := h.less rfl; omega
theorem plc_le_len {g : List (List Nat)} {o : List Nat} (ho : Ord g o) (x : Nat) : plc o.reverse x ≤ g.length := by
  have h1 := plc_le o.reverse x
  have h2 := ho.nodup.length_le_of_subset (l₂ := List.range g.length) (fun x hx => List.mem_range.2 (ho.lt x hx))
  rw [List.length_range] at h2
  rw [List.length_reverse] at h1
  omega
/-- First told of. -/
theorem NS.fresh {g : List (List Nat)} {o : List Nat} (ho : Ord g o) {d0 : List Int} {s : List (Nat × Nat)} {d : List Int} {ch : Bool} (h : NS g o d0 s d ch) {f t : Nat} (ha : At g o s d f t) (h0 : t ≠ 0) (hn : ask d t = -1) : NS g o d0 (s ++ [(f, t)]) (d.set t (f : Int)) true :=
  h.put ho ha h0 (.refl f) (ha.fresh h0 hn) (fun a hat hd => hd.edge hat ha.edge) (by rw [if_pos hn]; have := plc_le_len ho f; omega)
/-- Met. -/
theorem NS.met {g : List (List Nat)} {o : List Nat} (ho : Ord g o) {d0 : List Int} {s : List (Nat × Nat)} {d : List Int} {ch : Bool} (h : NS g o d0 s d ch) {f t y c : Nat} (ha : At g o s d f t) (h0 : t ≠ 0) (hy : ask d t = (y : Int)) (hm : Meets o.reverse d y f c) :
    (c = y → NS g o d0 (s ++ [(f, t)]) d ch) ∧ (c ≠ y → NS g o d0 (s ++ [(f, t)]) (d.set t (c : Int)) true) := by
  obtain ⟨_, _, y', h1, h2, h3, h4⟩ := h.tr.up t (by omega)
  have e : y' = y := by omega
  subst e
  have hyt : Told o d y' := ⟨h2, h4⟩
  obtain ⟨k1, k2, k3⟩ := hm.told ho h.tr hyt ha.told
  refine ⟨fun e => h.stay hy (e ▸ k2), fun hne => ?_⟩
  have hc := h.tr.anc k1 hyt
  have hlt : plc o.reverse c < plc o.reverse y' := by
    have : plc o.reverse c ≠ plc o.reverse y' := fun e => hne (ho.inj c hc.1.1 y' h2 e)
    omega
  refine h.put ho ha h0 k2 (by omega) (fun a hat hd => k3 a (h.tr.dom t y' hy a hat hd) (hd.edge hat ha.edge)) ?_
  rw [if_neg (by omega), hy, Int.toNat_natCast]
  exact hlt
theorem edO_all (g : List (List Nat)) (o : List Nat) {f t : Nat} (hf : f ∈ o) (ht : t ∈ g.getD f []) : (f, t) ∈ edO g o.reverse o.reverse.length 0 := by
  obtain ⟨g1, g2⟩ := getD_of_mem o.reverse f (List.mem_reverse.2 hf)
  have := edO_mem g o.reverse o.reverse.length (plc o.reverse f - 1) 0 t g2 (Nat.le_refl _) (by rw [g1]; exact ht)
  rwa [g1] at this
/-- A sweep that changed nothing. -/
theorem NS.fin {g : List (List Nat)} {o : List Nat} (ho : Ord g o) {d0 d : List Int} (h : NS g o d0 (edO g o.reverse o.reverse.length 0) d false) : d = d0 ∧ Fin g o d0 := by
  have hd := (h.keep rfl).1
  subst hd
  refine ⟨rfl, h.tr, fun x hx => ?_, fun f hf t ht h0 y hy => (h.keep rfl).2 (f, t) (edO_all g o hf ht) h0 y hy⟩
  by_cases h0 : x = 0
  · exact .inl h0
  · obtain ⟨u, hu, he, _⟩ := ho.par x hx h0
    exact .inr (h.def_ (u, x) (edO_all g o hu he) h0)
theorem tr_none (g : List (List Nat)) (o : List Nat) : Tr g o (List.replicate g.length (-1)) := by
  have ha : ∀ x, ask (List.replicate g.length (-1)) x = -1 := fun x => by
    unfold ask
    rw [List.getD_eq_getElem?_getD, List.getElem?_replicate]
    split <;> rfl
  exact ⟨by simp, ha 0, fun x hx => absurd (ha x) hx, fun x y hy => by rw [ha x] at hy; omega⟩

end Go.Proofs.Ytonoeodlchkiaaa
