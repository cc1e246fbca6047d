/-
  The small case of the laws of layer 7.
-/
import Derived.Test.YtonoeodlchkiaaaItr
import Derived.Test.YtonoeodlchkiaaaDmt
namespace Go.Proofs.Ytonoeodlchkiaaa
open Go.ChangeShapes Go.WideShapes Go.ChangeAt Go.RowKit Go.Shelf Go.Maps

def g0 : List (List Nat) := [[1, 2], [3], [3], [0]]
theorem g0_right : Right g0 := by
  refine ⟨by decide, by decide, fun b => ?_, fun b t ht => ?_⟩
  · by_cases h : b < 4
    · have : b = 0 ∨ b = 1 ∨ b = 2 ∨ b = 3 := by omega
      rcases this with rfl | rfl | rfl | rfl <;> decide
    · rw [getD_ge g0 b (by show 4 ≤ b; omega)]; exact Nat.zero_le _
  · by_cases h : b < 4
    · have : b = 0 ∨ b = 1 ∨ b = 2 ∨ b = 3 := by omega
      rcases this with rfl | rfl | rfl | rfl <;> simp [g0] at ht ⊢ <;> omega
    · rw [getD_ge g0 b (by show 4 ≤ b; omega)] at ht; cases ht
/-- The heads of a graph in blocks of its own. -/
def hdAt (h : Nat) (g : List (List Int)) (b : Nat) : Hdr := ⟨some ⟨h + b, 0, none⟩, (g.getD b []).length, h + b, 0⟩
/-- A graph in blocks of its own. -/
theorem gat_lit {W : World} {h Bo : Nat} {g : List (List Int)} (hr : ∀ b, b < g.length → W.heap[h + b]? = some (.cells ((g.getD b []).map (Value.int .i64)).toArray 3 (0, 0)))
    (ho : W.heap[Bo]? = some (.cells ((List.range g.length).map fun b => Value.slice (some ⟨h + b, 0, none⟩) (g.getD b []).length (g.getD b []).length).toArray 25 (0, 0))) : GAt W (some ⟨Bo, 0, none⟩) Bo 0 (hdAt h g) g :=
  ⟨fun _ => rfl, fun _ => lt_of ho, fun b hb => by rw [cell_of ho, Nat.zero_add]; simp [hb, hdAt], fun b hb _ => rfl, fun b hb _ => lt_of (hr b hb), fun b hb => Nat.le_refl _, fun b k hb hk => by
    show W.cell? ⟨h + b, 0 + k, none⟩ = _
    rw [cell_of (hr b hb), Nat.zero_add, List.getElem?_toArray, List.getElem?_map, List.getD_eq_getElem?_getD (l := g.getD b []), List.getElem?_eq_getElem hk]; rfl⟩

theorem RowN.shape {W : World} {v : Value} {xs : List Int} (h : RowN W v xs) : ∃ av cap, v = .slice av xs.length cap := by
  obtain ⟨av, cap, _, _, h, _⟩ := h; exact ⟨av, cap, h⟩
theorem RowsN.shape {W : World} {v : Value} {xs : List (List Int)} (h : RowsN W v xs) : ∃ av cap, v = .slice av xs.length cap := by
  obtain ⟨av, cap, _, _, h, _⟩ := h; exact ⟨av, cap, h⟩
theorem heap2 (w : World) (A B : Obj) : Below w.heap.size w ((w.alloc A).alloc B) ∧ ((w.alloc A).alloc B).heap[w.heap.size]? = some A ∧ ((w.alloc A).alloc B).heap[w.heap.size + 1]? = some B := by
  refine ⟨(bel_new w A).alloc (by simp) _, (Below.heap_alloc _ _ _ (by simp)).trans (World.alloc_heap_new w A), ?_⟩
  have := World.alloc_heap_new (w.alloc A) B
  rwa [World.size_alloc] at this
theorem heap5 (w : World) (A B C D E : Obj) : Below w.heap.size w (((((w.alloc A).alloc B).alloc C).alloc D).alloc E) ∧ (((((w.alloc A).alloc B).alloc C).alloc D).alloc E).heap[w.heap.size]? = some A ∧ (((((w.alloc A).alloc B).alloc C).alloc D).alloc E).heap[w.heap.size + 1]? = some B ∧ (((((w.alloc A).alloc B).alloc C).alloc D).alloc E).heap[w.heap.size + 2]? = some C ∧ (((((w.alloc A).alloc B).alloc C).alloc D).alloc E).heap[w.heap.size + 3]? = some D ∧ (((((w.alloc A).alloc B).alloc C).alloc D).alloc E).heap[w.heap.size + 4]? = some E := by
  obtain ⟨h1, h2, h3⟩ := heap2 w A B
  obtain ⟨k1, k2, k3⟩ := heap2 ((w.alloc A).alloc B) C D
  have hs : ((w.alloc A).alloc B).heap.size = w.heap.size + 2 := by simp
  rw [hs] at k1 k2 k3
  have hs4 : ((((w.alloc A).alloc B).alloc C).alloc D).heap.size = w.heap.size + 4 := by simp
  have kE := World.alloc_heap_new ((((w.alloc A).alloc B).alloc C).alloc D) E
  rw [hs4] at kE
  have hE : ∀ b, b < w.heap.size + 4 → (((((w.alloc A).alloc B).alloc C).alloc D).alloc E).heap[b]? = ((((w.alloc A).alloc B).alloc C).alloc D).heap[b]? := fun b hb => Below.heap_alloc _ _ _ (by omega)
  refine ⟨(h1.trans (k1.mono (by omega))).alloc (by omega) _, ?_, ?_, ?_, ?_, kE⟩
  · rw [hE _ (by omega), k1.block _ (by omega)]; exact h2
  · rw [hE _ (by omega), k1.block _ (by omega)]; exact h3
  · rw [hE _ (by omega)]; exact k2
  · rw [hE _ (by omega)]; exact k3
/-- Four rows in five blocks. -/
theorem lit4 (w : World) (r0 r1 r2 r3 : List Int) :
    Below w.heap.size w (((((w.alloc (.cells (r0.map (Value.int .i64)).toArray 3)).alloc (.cells (r1.map (Value.int .i64)).toArray 3)).alloc (.cells (r2.map (Value.int .i64)).toArray 3)).alloc (.cells (r3.map (Value.int .i64)).toArray 3)).alloc (.cells #[.slice (some ⟨w.heap.size, 0, none⟩) r0.length r0.length, .slice (some ⟨w.heap.size + 1, 0, none⟩) r1.length r1.length, .slice (some ⟨w.heap.size + 1 + 1, 0, none⟩) r2.length r2.length, .slice (some ⟨w.heap.size + 1 + 1 + 1, 0, none⟩) r3.length r3.length] 25)) ∧
    GAt (((((w.alloc (.cells (r0.map (Value.int .i64)).toArray 3)).alloc (.cells (r1.map (Value.int .i64)).toArray 3)).alloc (.cells (r2.map (Value.int .i64)).toArray 3)).alloc (.cells (r3.map (Value.int .i64)).toArray 3)).alloc (.cells #[.slice (some ⟨w.heap.size, 0, none⟩) r0.length r0.length, .slice (some ⟨w.heap.size + 1, 0, none⟩) r1.length r1.length, .slice (some ⟨w.heap.size + 1 + 1, 0, none⟩) r2.length r2.length, .slice (some ⟨w.heap.size + 1 + 1 + 1, 0, none⟩) r3.length r3.length] 25)) (some ⟨w.heap.size + 1 + 1 + 1 + 1, 0, none⟩) (w.heap.size + 1 + 1 + 1 + 1) 0 (hdAt w.heap.size [r0, r1, r2, r3]) [r0, r1, r2, r3] := by
  obtain ⟨hb, k0, k1, k2, k3, k4⟩ := heap5 w (.cells (r0.map (Value.int .i64)).toArray 3) (.cells (r1.map (Value.int .i64)).toArray 3) (.cells (r2.map (Value.int .i64)).toArray 3) (.cells (r3.map (Value.int .i64)).toArray 3) (.cells #[.slice (some ⟨w.heap.size, 0, none⟩) r0.length r0.length, .slice (some ⟨w.heap.size + 1, 0, none⟩) r1.length r1.length, .slice (some ⟨w.heap.size + 1 + 1, 0, none⟩) r2.length r2.length, .slice (some ⟨w.heap.size + 1 + 1 + 1, 0, none⟩) r3.length r3.length] 25)
  refine ⟨hb, gat_lit (fun b hb => ?_) k4⟩
  have : b = 0 ∨ b = 1 ∨ b = 2 ∨ b = 3 := by simp at hb; omega
  rcases this with rfl | rfl | rfl | rfl
  · exact k0
  · exact k1
  · exact k2
  · exact k3


theorem rise_ext {l m : List Nat} (hl : l.Pairwise (· < ·)) (hm : m.Pairwise (· < ·)) (h : ∀ t, t ∈ l ↔ t ∈ m) : l = m :=
  ((List.perm_ext_iff_of_nodup (hl.imp fun h => Nat.ne_of_lt h) (hm.imp fun h => Nat.ne_of_lt h)).2 h).eq_of_pairwise (fun a b _ _ h1 h2 => by omega) hl hm
theorem anc_zero {d : List Int} (h0 : ask d 0 = -1) {y : Nat} (h : Anc d 0 y) : y = 0 := by
  cases h with
  | refl => rfl
  | up e _ => rw [h0] at e; omega
theorem anc_one {d : List Int} (h0 : ask d 0 = -1) {x y : Nat} (hx : ask d x = 0) (h : Anc d x y) : y = x ∨ y = 0 := by
  cases h with
  | refl => exact .inl rfl
  | @up _ z _ e k =>
    have : z = 0 := by rw [hx] at e; omega
    subst this
    exact .inr (anc_zero h0 k)
theorem g0_idom {o : List Nat} {d : List Int} (ho : Ord g0 o) (hf : Fin g0 o d) : d = [-1, 0, 0, 0] ∧ ∀ x, x ∈ o ↔ x < 4 := by
  have h0 := ho.zero
  have h1 := ho.cl 0 h0 1 (by decide)
  have h2 := ho.cl 0 h0 2 (by decide)
  have h3 := ho.cl 1 h1 3 (by decide)
  have z := hf.zero
  have get : ∀ x ∈ o, x ≠ 0 → ∃ y : Nat, ask d x = (y : Int) := fun x hx hn => by
    obtain ⟨_, _, y, hy, _⟩ := hf.up x ((hf.all x hx).resolve_left hn)
    exact ⟨y, hy⟩
  obtain ⟨y1, e1⟩ := get 1 h1 (by decide)
  obtain ⟨y2, e2⟩ := get 2 h2 (by decide)
  obtain ⟨y3, e3⟩ := get 3 h3 (by decide)
  have q1 := anc_zero z (hf.edge 0 h0 1 (by decide) (by decide) y1 e1)
  have q2 := anc_zero z (hf.edge 0 h0 2 (by decide) (by decide) y2 e2)
  subst q1 q2
  have r1 := anc_one z e1 (hf.edge 1 h1 3 (by decide) (by decide) y3 e3)
  have r2 := anc_one z e2 (hf.edge 2 h2 3 (by decide) (by decide) y3 e3)
  have q3 : y3 = 0 := by omega
  subst q3
  refine ⟨?_, fun x => ⟨fun hx => ho.lt x hx, fun hx => ?_⟩⟩
  · have hl := hf.len
    match d, hl with
    | [a, b, c, e], _ =>
      simp [ask] at z e1 e2 e3
      simp [z, e1, e2, e3]
  · have : x = 0 ∨ x = 1 ∨ x = 2 ∨ x = 3 := by omega
    rcases this with rfl | rfl | rfl | rfl <;> assumption
theorem chain_of {d : List Int} (h0 : ask d 0 = -1) {x : Nat} (hx : ask d x = 0) {s : List Nat} {a : Nat} (h : Chain d x s a) : (s = [] ∧ a = x) ∨ (s = [x] ∧ a = 0) := by
  rcases h.cons_inv with h | ⟨y, r, rfl, e, k⟩
  · exact .inl h
  · have : y = 0 := by rw [hx] at e; omega
    subst this
    rcases k.cons_inv with ⟨rfl, rfl⟩ | ⟨_, _, rfl, e2, _⟩
    · exact .inr ⟨rfl, rfl⟩
    · rw [h0] at e2; omega
theorem chain_zero {d : List Int} (h0 : ask d 0 = -1) {s : List Nat} {a : Nat} (h : Chain d 0 s a) : s = [] ∧ a = 0 := by
  rcases h.cons_inv with h | ⟨y, r, rfl, e, k⟩
  · exact h
  · rw [h0] at e; omega
def f0 (a : Nat) : List Nat := [[0], [3], [3], [0]].getD a []
theorem g0_fr {o : List Nat} (ho : ∀ x, x ∈ o ↔ x < 4) (a t : Nat) : (∃ x ∈ o, t ∈ g0.getD x [] ∧ Fr [-1, 0, 0, 0] x t a) ↔ t ∈ f0 a := by
  have z : ask [-1, 0, 0, 0] 0 = -1 := rfl
  have a1 : ask [-1, 0, 0, 0] 1 = 0 := rfl
  have a2 : ask [-1, 0, 0, 0] 2 = 0 := rfl
  have a3 : ask [-1, 0, 0, 0] 3 = 0 := rfl
  constructor
  · rintro ⟨x, hx, ht, s, hc, hn⟩
    have hx' : x = 0 ∨ x = 1 ∨ x = 2 ∨ x = 3 := by have := (ho x).1 hx; omega
    rcases hx' with rfl | rfl | rfl | rfl
    · obtain ⟨rfl, rfl⟩ := chain_zero z hc
      have h0 := hn 0 (by simp)
      have ht' : t = 1 ∨ t = 2 := by simpa [g0] using ht
      rcases ht' with rfl | rfl
      · rw [a1] at h0; simp at h0
      · rw [a2] at h0; simp at h0
    · have ht' : t = 3 := by simpa [g0] using ht
      subst ht'
      rw [a3] at hn
      rcases chain_of z a1 hc with ⟨rfl, rfl⟩ | ⟨rfl, rfl⟩
      · simp [f0]
      · exact absurd rfl (hn 0 (by simp))
    · have ht' : t = 3 := by simpa [g0] using ht
      subst ht'
      rw [a3] at hn
      rcases chain_of z a2 hc with ⟨rfl, rfl⟩ | ⟨rfl, rfl⟩
      · simp [f0]
      · exact absurd rfl (hn 0 (by simp))
    · have ht' : t = 0 := by simpa [g0] using ht
      subst ht'
      rcases chain_of z a3 hc with ⟨rfl, rfl⟩ | ⟨rfl, rfl⟩
      · simp [f0]
      · simp [f0]
  · intro ht
    by_cases h : a < 4
    · have : a = 0 ∨ a = 1 ∨ a = 2 ∨ a = 3 := by omega
      rcases this with rfl | rfl | rfl | rfl
      · have ht' : t = 0 := by simpa [f0] using ht
        subst ht'
        exact ⟨3, (ho 3).2 (by decide), by decide, [3], .snoc .nil a3, fun y hy => by rw [z]; omega⟩
      · have ht' : t = 3 := by simpa [f0] using ht
        subst ht'
        exact ⟨1, (ho 1).2 (by decide), by decide, [], .nil, fun y hy => by simp at hy; subst hy; rw [a3]; decide⟩
      · have ht' : t = 3 := by simpa [f0] using ht
        subst ht'
        exact ⟨2, (ho 2).2 (by decide), by decide, [], .nil, fun y hy => by simp at hy; subst hy; rw [a3]; decide⟩
      · have ht' : t = 0 := by simpa [f0] using ht
        subst ht'
        exact ⟨3, (ho 3).2 (by decide), by decide, [], .nil, fun y hy => by simp at hy; subst hy; rw [z]; decide⟩
    · simp [f0] at ht
      rw [List.getElem?_eq_none (by simp; omega)] at ht
      cases ht
theorem g0_fro {o : List Nat} {d : List Int} (ho : Ord g0 o) (hf : Fin g0 o d) {f : Nat → List Nat} (h : IsFro g0 o d f) : ∀ a, a < 4 → f a = f0 a := by
  obtain ⟨rfl, hom⟩ := g0_idom ho hf
  intro a ha
  refine rise_ext (h a ha).1 ?_ fun t => ((h a ha).2 t).trans (g0_fr hom a t)
  have : a = 0 ∨ a = 1 ∨ a = 2 ∨ a = 3 := by omega
  rcases this with rfl | rfl | rfl | rfl <;> simp [f0]
theorem g0_deep {o : List Nat} {d de : List Int} (ho : Ord g0 o) (hf : Fin g0 o d) (h : Deep g0 o d de) : de = [0, 1, 1, 1] := by
  obtain ⟨rfl, hom⟩ := g0_idom ho hf
  have z := h.zero
  have e1 := h.up 1 0 rfl
  have e2 := h.up 2 0 rfl
  have e3 := h.up 3 0 rfl
  have hl := h.len
  rw [z] at e1 e2 e3
  match de, hl with
  | [a, b, c, e], _ =>
    simp [ask] at z e1 e2 e3
    simp [z, e1, e2, e3]
theorem g0_itd {f : Nat → List Nat} (hf : ∀ a, a < 4 → f a = f0 a) (t : Nat) : Itd f [1] t ↔ t ∈ [0, 3] := by
  have k0 : f 0 = [0] := hf 0 (by decide)
  have k1 : f 1 = [3] := hf 1 (by decide)
  have k3 : f 3 = [0] := hf 3 (by decide)
  constructor
  · intro h
    induction h with
    | @first a t ha ht =>
      have ha' : a = 1 := by simpa using ha
      subst ha'
      rw [k1] at ht
      have : t = 3 := by simpa using ht
      subst this; simp
    | @more b t _ ht ih =>
      have : b = 0 ∨ b = 3 := by simpa using ih
      rcases this with rfl | rfl
      · rw [k0] at ht; have : t = 0 := by simpa using ht
        subst this; simp
      · rw [k3] at ht; have : t = 0 := by simpa using ht
        subst this; simp
  · intro h
    have h3 : Itd f [1] 3 := .first (a := 1) (by simp) (by rw [k1]; simp)
    have : t = 0 ∨ t = 3 := by simpa using h
    rcases this with rfl | rfl
    · exact .more h3 (by rw [k3]; simp)
    · exact h3

set_option maxRecDepth 100000 in
set_option maxHeartbeats 8000000 in
theorem small_is (w : World) : Calls Try.prog 7 #[] w fun e w' => e = .returned (.bool true) ∧ Below w.heap.size w w' := by
  go_enter Try.func7, Try.ntmps7
  obtain ⟨hb1, hG1⟩ := lit4 w [1, 2] [3] [3] [0]
  have HB1 := hide hb1
  have HG1 := hide hG1
  clear hb1 hG1
  go_wp2_with fail
  simp only [List.map_cons, List.map_nil, List.length_cons, List.length_nil, Nat.zero_add, Nat.reduceAdd] at HB1 HG1
  generalize (((((w.alloc (.cells #[.int .i64 1, .int .i64 2] 3)).alloc (.cells #[.int .i64 3] 3)).alloc (.cells #[.int .i64 3] 3)).alloc (.cells #[.int .i64 0] 3)).alloc (.cells #[.slice (some ⟨w.heap.size, 0, none⟩) 2 2, .slice (some ⟨w.heap.size + 1, 0, none⟩) 1 1, .slice (some ⟨w.heap.size + 1 + 1, 0, none⟩) 1 1, .slice (some ⟨w.heap.size + 1 + 1 + 1, 0, none⟩) 1 1] 25)) = w1 at *
  have hB1 := HB1.out
  have hG1 : GAt w1 (some ⟨w.heap.size + 1 + 1 + 1 + 1, 0, none⟩) (w.heap.size + 1 + 1 + 1 + 1) 0 (hdAt w.heap.size [[1, 2], [3], [3], [0]]) (castG g0) := HG1.out
  clear HB1 HG1
  generalize hdAt w.heap.size [[1, 2], [3], [3], [0]] = hd at *
  generalize w.heap.size + 1 + 1 + 1 + 1 = B at *
  have hid := idom_is _ 4 B 0 hd g0 g0_right w1 hG1
  refine hid.mono ?_
  clear hid
  rintro e w2 ⟨hb2, IB, d, m', o, hIB, rfl, hdB, hwk, hfin⟩
  have hord := ord_of (g := g0) (by decide) hwk
  obtain ⟨hde, hom⟩ := g0_idom hord hfin
  subst hde
  have HORD := hide hord
  have HFIN := hide hfin
  have HWK := hide hwk
  have hB2 := bel_two hB1 hb2
  have hG2 := hG1.below hb2
  have hIl := lt_of hdB
  have HDB := hide hdB
  clear hord hfin hwk hb2
  -- the row of idom
  have hv3 : RowN w2 (.slice (some ⟨IB, 0, none⟩) 4 4) [-1, 0, 0, 0] := RowN.of_block (xs := [-1, 0, 0, 0]) hdB rfl
  have k3 := World.alloc_heap_new w2 (.cells #[.int .i64 (-1), .int .i64 0, .int .i64 0, .int .i64 0] 3)
  have hn3 : RowN (w2.alloc (.cells #[.int .i64 (-1), .int .i64 0, .int .i64 0, .int .i64 0] 3)) (.slice (some ⟨w2.heap.size, 0, none⟩) 4 4) [-1, 0, 0, 0] := RowN.of_block (xs := [-1, 0, 0, 0]) k3 rfl
  have HI := hide (ints_same (W := w2.alloc (.cells #[.int .i64 (-1), .int .i64 0, .int .i64 0, .int .i64 0] 3)) (xs := [-1, 0, 0, 0]) (by decide) (hv3.below (bel_new w2 _)) hn3)
  clear hn3 k3 hv3 hdB
  go_wp2_with fail
  refine HI.out.mono ?_
  clear HI
  rintro e w3 ⟨rfl, hq3⟩
  have hb3 := bel_two (bel_new w2 _) (bel_q hq3)
  clear hq3
  have hB3 := bel_two hB2 hb3
  have hG3 := hG2.below hb3
  have HDB3 := hide ((hb3.block IB hIl).trans HDB.out)
  have hIl3 := lt_of HDB3.out
  clear HDB hb3
  -- frontiers
  have HF := hide (frontier_is _ 4 B 0 hd g0 g0_right w3 hG3)
  go_wp2_with fail
  refine HF.out.mono ?_
  clear HF
  rintro e w4 ⟨hb4, RB, base, d4, m4, o4, f4, -, -, -, rfl, hwk4, hfin4, hrows4, hfro4⟩
  have hff := g0_fro (ord_of (g := g0) (by decide) hwk4) hfin4 hfro4
  have hv4 := RowsN.of_rowsB hrows4
  have hee : castG ((List.range g0.length).map f4) = [[0], [3], [3], [0]] := by
    rw [show List.range g0.length = [0, 1, 2, 3] from rfl]
    simp only [List.map_cons, List.map_nil, hff 0 (by decide), hff 1 (by decide), hff 2 (by decide), hff 3 (by decide)]
    rfl
  rw [hee] at hv4
  have hB4 := bel_two hB3 hb4
  have hG4 := hG3.below hb4
  have HDB4 := hide ((hb4.block IB hIl3).trans HDB3.out)
  have hIl4 := lt_of HDB4.out
  obtain ⟨hb5, hG5⟩ := lit4 w4 [0] [3] [3] [0]
  have HI := hide (rows_same (xss := [[0], [3], [3], [0]]) (by decide) (fun k => by match k with | 0 => decide | 1 => decide | 2 => decide | 3 => decide | k + 4 => simp) (hv4.below hb5) (RowsN.of_gat (cap := 4) hG5))
  have HB5 := hide hb5
  clear hG5 hb5 hv4 hee hff hrows4 hfro4 hfin4 hwk4 HDB3 hb4
  simp only [List.map_cons, List.map_nil, List.length_cons, List.length_nil, Nat.zero_add, Nat.reduceAdd] at HB5 HI
  go_wp2_with fail
  refine HI.out.mono ?_
  clear HI
  rintro e w6 ⟨rfl, hq6⟩
  have hb6 := bel_two HB5.out (bel_q hq6)
  clear hq6 HB5
  have hB6 := bel_two hB4 hb6
  have hG6 := hG4.below hb6
  have HDB6 := hide ((hb6.block IB hIl4).trans HDB4.out)
  have hIl6 := lt_of HDB6.out
  clear hb6 HDB4
  -- who dominates
  have t1 : domB o [-1, 0, 0, 0] (0 : Int) (3 : Int) = true := domB_true.2 ⟨0, 3, rfl, rfl, (hom 0).2 (by decide), (hom 3).2 (by decide), .up rfl (.refl 0)⟩
  have t2 : domB o [-1, 0, 0, 0] (1 : Int) (3 : Int) = false := domB_false fun ⟨x, y, h1, h2, h3, h4, h5⟩ => by
    have hx : x = 1 := by omega
    have hy : y = 3 := by omega
    subst hx hy
    rcases anc_one rfl rfl h5 with h | h <;> omega
  have hD := dominates_is g0 (by decide) o HORD.out _ HFIN.out IB 0 3 w6 HDB6.out
  rw [t1] at hD
  have HD := hide hD
  clear hD
  go_wp2_with fail
  refine HD.out.mono ?_
  clear HD
  rintro e w7 ⟨hb7, rfl⟩
  have hB7 := bel_two hB6 hb7
  have hG7 := hG6.below hb7
  have HDB7 := hide ((hb7.block IB hIl6).trans HDB6.out)
  have hIl7 := lt_of HDB7.out
  clear hb7 HDB6
  have hD := dominates_is g0 (by decide) o HORD.out _ HFIN.out IB 1 3 w7 HDB7.out
  rw [t2] at hD
  have HD := hide hD
  clear hD t1 t2
  go_wp2_with fail
  refine HD.out.mono ?_
  clear HD
  rintro e w8 ⟨hb8, rfl⟩
  have hB8 := bel_two hB7 hb8
  have hG8 := hG7.below hb8
  have HDB8 := hide ((hb8.block IB hIl7).trans HDB7.out)
  have hIl8 := lt_of HDB8.out
  clear hb8 HDB7
  -- kids
  have HKD := hide (kids_is IB 4 (by decide) [-1, 0, 0, 0] rfl w8 HDB8.out)
  go_wp2_with fail
  refine HKD.out.mono ?_
  clear HKD
  rintro e w9 ⟨hb9, H9, base9, -, -, rfl, hov⟩
  have hv9 := RowsN.of_rowsB hov
  have hee : castG ((List.range 4).map (kidsTo [-1, 0, 0, 0] 4)) = [[1, 2, 3], [], [], []] := by decide
  rw [hee] at hv9
  have hB9 := bel_two hB8 hb9
  have hG9 := hG8.below hb9
  have HDB9 := hide ((hb9.block IB hIl8).trans HDB8.out)
  have hIl9 := lt_of HDB9.out
  clear hov hee hb9 HDB8
  obtain ⟨hb10, k10, k11⟩ := heap2 w9 (.cells #[.int .i64 1, .int .i64 2, .int .i64 3] 3) (.cells #[.slice (some ⟨w9.heap.size, 0, none⟩) 3 3, .slice none 0 0, .slice none 0 0, .slice none 0 0] 25)
  have hn10 : RowsN ((w9.alloc (.cells #[.int .i64 1, .int .i64 2, .int .i64 3] 3)).alloc (.cells #[.slice (some ⟨w9.heap.size, 0, none⟩) 3 3, .slice none 0 0, .slice none 0 0, .slice none 0 0] 25)) (.slice (some ⟨w9.heap.size + 1, 0, none⟩) 4 4) [[1, 2, 3], [], [], []] := ⟨_, 4, w9.heap.size + 1, 0, rfl, fun _ => ⟨rfl, by simp⟩, fun k hk => by
    have : k = 0 ∨ k = 1 ∨ k = 2 ∨ k = 3 := by simp at hk; omega
    rcases this with rfl | rfl | rfl | rfl
    · exact ⟨_, cell_of k11 0, RowN.of_block (xs := [1, 2, 3]) k10 rfl⟩
    · exact ⟨_, cell_of k11 1, none, 0, 0, 0, rfl, fun h => absurd h (by decide), fun k hk => absurd hk (Nat.not_lt_zero _)⟩
    · exact ⟨_, cell_of k11 2, none, 0, 0, 0, rfl, fun h => absurd h (by decide), fun k hk => absurd hk (Nat.not_lt_zero _)⟩
    · exact ⟨_, cell_of k11 3, none, 0, 0, 0, rfl, fun h => absurd h (by decide), fun k hk => absurd hk (Nat.not_lt_zero _)⟩⟩
  have HI := hide (rows_same (xss := [[1, 2, 3], [], [], []]) (by decide) (fun k => by match k with | 0 => decide | 1 => decide | 2 => decide | 3 => decide | k + 4 => simp) (hv9.below hb10) hn10)
  have HB10 := hide hb10
  clear hn10 k10 k11 hb10 hv9
  go_wp2_with fail
  refine HI.out.mono ?_
  clear HI
  rintro e w11 ⟨rfl, hq11⟩
  have hb11 := bel_two HB10.out (bel_q hq11)
  clear hq11 HB10
  have hB11 := bel_two hB9 hb11
  have hG11 := hG9.below hb11
  have HDB11 := hide ((hb11.block IB hIl9).trans HDB9.out)
  have hIl11 := lt_of HDB11.out
  clear hb11 HDB9
  -- depths
  have HDP := hide (depth_is g0 (by decide) o HORD.out _ HFIN.out IB w11 HDB11.out)
  go_wp2_with fail
  refine HDP.out.mono ?_
  clear HDP
  rintro e w12 ⟨hb12, R, de, -, rfl, hR, hdeep⟩
  have hde := g0_deep HORD.out HFIN.out hdeep
  subst hde
  have hB12 := bel_two hB11 hb12
  have hG12 := hG11.below hb12
  have hv12 : RowN w12 (.slice (some ⟨R, 0, none⟩) 4 4) [0, 1, 1, 1] := RowN.of_block (xs := [0, 1, 1, 1]) hR rfl
  have k13 := World.alloc_heap_new w12 (.cells #[.int .i64 0, .int .i64 1, .int .i64 1, .int .i64 1] 3)
  have hn13 : RowN (w12.alloc (.cells #[.int .i64 0, .int .i64 1, .int .i64 1, .int .i64 1] 3)) (.slice (some ⟨w12.heap.size, 0, none⟩) 4 4) [0, 1, 1, 1] := RowN.of_block (xs := [0, 1, 1, 1]) k13 rfl
  have HI := hide (ints_same (W := w12.alloc (.cells #[.int .i64 0, .int .i64 1, .int .i64 1, .int .i64 1] 3)) (xs := [0, 1, 1, 1]) (by decide) (hv12.below (bel_new w12 _)) hn13)
  clear hn13 k13 hv12 hR hdeep hb12
  go_wp2_with fail
  refine HI.out.mono ?_
  clear HI
  rintro e w14 ⟨rfl, hq14⟩
  have hb14 := bel_two (bel_new w12 _) (bel_q hq14)
  clear hq14
  have hB14 := bel_two hB12 hb14
  have hG14 := hG12.below hb14
  clear hb14
  -- frontiers, again and again
  have hb15 := bel_new w14 (.cells #[.int .i64 1] 3)
  have k15 := World.alloc_heap_new w14 (.cells #[.int .i64 1] 3)
  have HIT := hide (iterated_is _ 4 B 0 hd g0 g0_right w14.heap.size 1 [1] (by decide) (by decide) (fun x hx => by simp at hx; subst hx; decide) _ (hG14.below hb15) (by simp) (fun k hk => by
    obtain rfl : k = 0 := by simpa using hk
    exact cell_of k15 0))
  have HB15 := hide hb15
  clear hb15 k15
  go_wp2_with fail
  refine HIT.out.mono ?_
  clear HIT
  rintro e w16 ⟨hb16, v, d5, m5, o5, f5, l5, rfl, hwk5, hfin5, hfro5, hov5, hl5, hm5⟩
  have hff := g0_fro (ord_of (g := g0) (by decide) hwk5) hfin5 hfro5
  have hle : l5 = [0, 3] := rise_ext hl5 (by simp) (fun t => (hm5 t).trans (g0_itd hff t))
  subst hle
  have hB16 := bel_two (bel_two hB14 HB15.out) hb16
  have hv16 : RowN w16 v [0, 3] := RowN.of_owns hov5
  have k17 := World.alloc_heap_new w16 (.cells #[.int .i64 0, .int .i64 3] 3)
  have hn17 : RowN (w16.alloc (.cells #[.int .i64 0, .int .i64 3] 3)) (.slice (some ⟨w16.heap.size, 0, none⟩) 2 2) [0, 3] := RowN.of_block (xs := [0, 3]) k17 rfl
  have HI := hide (ints_same (W := w16.alloc (.cells #[.int .i64 0, .int .i64 3] 3)) (xs := [0, 3]) (by decide) (hv16.below (bel_new w16 _)) hn17)
  obtain ⟨av16, cp16, hv16e⟩ := hv16.shape
  subst hv16e
  clear hn17 k17 hv16 hov5 hl5 hm5 hff hwk5 hfin5 hfro5 hb16 HB15
  go_wp2_with fail
  refine HI.out.mono ?_
  clear HI
  rintro e w18 ⟨rfl, hq18⟩
  have hB18 := bel_two hB16 (bel_two (bel_new w16 _) (bel_q hq18))
  clear hq18
  go_wp2
  go_ret
  exact ⟨rfl, hB18⟩

end Go.Proofs.Ytonoeodlchkiaaa
