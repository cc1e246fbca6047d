/-
  Pairs in a row (layer 5), and one more put among them; what the document's Places answers.
-/
import Derived.Test.YtbfmadcppnfgpaaDoorMkA
import Derived.Deep.RegionHeld3
namespace Go.Proofs.YtbfmadcppnfgpaaDoor
open Go.ChangeShapes Go.WideShapes Go.ChangeAt Go.RowKit

/-- append, as one step. -/
theorem step_append {P : Program} {ops : Array Oper} {o : Oper} {a : Act} {w w' : World} {K : Act → World → Prop} {Q : Exit → Act → World → Prop} {E : Prop} (hg : o.guard = none) (s x : Operand) (t : TypeId)
    (hop : o.op = Op.call { callee := Callee.builtin Builtin.append, args := #[s, x], argTypes := #[t, t] }) {v y r : Value} (hs : a.eval s = v) (hx : a.eval x = y) (hr : (Builtin.append_ #[t, t] o.type #[v, y]).run P w = .ok r w')
    (hK : K (a.put o.dst r) w') : if Region.wanted o (yielded ops a.tmps) = true then Oper.wp P o a w K Q else E := by
  have hw : Region.wanted o (yielded ops a.tmps) = true := by simp [Region.wanted, hg]
  rw [if_pos hw]
  unfold Oper.wp
  simp [execOp, hop, resolve, invoke, builtin, hs, hx, hr, Result.andThen]
  exact hK
/-- Pairs that lie in a row, from a place on. -/
structure PairsAt (W : World) (av : Option Addr) (g off : Nat) (l : List (Int × Int)) : Prop where
  at_ : 0 < l.length → av = some ⟨g, off, none⟩
  lt : 0 < l.length → g < W.heap.size
  has : ∀ j (h : j < l.length), W.cell? ⟨g, off + j * 2, none⟩ = some (.int .i64 (l[j]'h).1) ∧ W.cell? ⟨g, off + j * 2 + 1, none⟩ = some (.int .i64 (l[j]'h).2)
theorem pflat_len2 (l : List (Int × Int)) : (l.flatMap pcells).length = l.length * 2 := by
  induction l with
  | nil => rfl
  | cons x r ih => rw [List.flatMap_cons, List.length_append, ih, List.length_cons]; simp; omega
theorem append_pairs (w : World) (ty : TypeId) (base : Nat) (v : Value) (n : Nat) (xs : List Value) (hown : w.ownsRow base 46 2 v n xs) (av : Option Addr) (cap g off : Nat) (l : List (Int × Int)) (hs : PairsAt w av g off l) (hbd : n + l.length ≤ 100000000) (hbase : base ≤ w.heap.size) :
    ∃ v' w', (Builtin.append_ #[28, 28] ty #[v, .slice av l.length cap]).run Tryd.prog w = .ok v' w' ∧ w'.ownsRow base 46 2 v' (n + l.length) (xs ++ l.flatMap pcells) ∧ w.grownBy w' v.ownBlock := by
  obtain ⟨i, hi, hz, hsi, hb⟩ := info_parts typ46
  by_cases h0 : 0 < l.length
  · obtain rfl := hs.at_ h0
    obtain ⟨g', cp, w', hr, h1, h2, _, _⟩ := run_append_lies (P := Tryd.prog) w 28 ty base 46 i _ 2 16 Tryd.underlying28 hi hz hsi hb rfl (by decide) v n xs hown ⟨g, off, none⟩ l.length cap (l.flatMap pcells) (pflat_len2 l)
      (fun j u hu => by
        rw [Addr.add_mid]
        have hj : j < l.length * 2 := by rw [← pflat_len2]; exact (List.getElem?_eq_some_iff.1 hu).1
        obtain ⟨q, f, hf, rfl⟩ : ∃ q f, f < 2 ∧ j = q * 2 + f := ⟨j / 2, j % 2, by omega, by omega⟩
        rw [pflat_get l q f (by omega) hf] at hu
        obtain ⟨k0, k1⟩ := hs.has q (by omega)
        have hf' : f = 0 ∨ f = 1 := by omega
        rw [← Nat.add_assoc]
        rcases hf' with rfl | rfl
        · exact k0.trans hu
        · exact k1.trans hu)
      (fun u hu => by
        obtain ⟨x, _, hx⟩ := List.mem_flatMap.1 hu
        simp at hx
        rcases hx with rfl | rfl <;> rfl) h0 (by unfold maxLen; omega) (by omega) hbase _ rfl
    exact ⟨_, w', hr, h1, h2⟩
  · have hl : l = [] := List.length_eq_zero_iff.1 (by omega)
    subst hl
    refine ⟨v, w, owns_nothing hown 28 ty i Tryd.underlying28 hi av cap, ?_, ⟨rfl, rfl, rfl, Nat.le_refl _, fun _ _ _ => rfl⟩⟩
    simpa using hown
/-- A row of pairs that is owned, and a piece of it. -/
theorem own_piece {W : World} {base : Nat} {ov : Option Addr} {oc : Nat} {l : List (Int × Int)} (h : W.ownsRow base 46 2 (.slice ov l.length oc) l.length (l.flatMap pcells)) : (0 < l.length → ∃ g, ov = some ⟨g, 0, none⟩ ∧ base ≤ g ∧ g < W.heap.size) ∧ ∀ g, ov = some ⟨g, 0, none⟩ → ∀ j (hj : j < l.length), W.cell? ⟨g, j * 2, none⟩ = some (.int .i64 (l[j]'hj).1) ∧ W.cell? ⟨g, j * 2 + 1, none⟩ = some (.int .i64 (l[j]'hj).2) := by
  refine ⟨fun h0 => ?_, fun g hg j hj => ?_⟩
  · obtain ⟨g, cp, e, hb, hlt⟩ := h.form h0
    injection e with e1
    exact ⟨g, e1, hb, hlt⟩
  · subst hg
    have key : ∀ f, f < 2 → W.cell? ⟨g, j * 2 + f, none⟩ = (pcells (l[j]'hj))[f]? := fun f hf => by
      rw [← pflat_get l j f hj hf, ← h.cellAt (j * 2 + f) (by omega)]
    exact ⟨key 0 (by decide), key 1 (by decide)⟩

theorem PairsAt.below {W W' : World} {av : Option Addr} {g off : Nat} {l : List (Int × Int)} (h : PairsAt W av g off l) (hb : Below W.heap.size W W') : PairsAt W' av g off l :=
  ⟨h.at_, fun h0 => Nat.lt_of_lt_of_le (h.lt h0) hb.size, fun j hj => ⟨(hb.cell (p := ⟨g, off + j * 2, none⟩) (h.lt (by omega))).trans (h.has j hj).1, (hb.cell (p := ⟨g, off + j * 2 + 1, none⟩) (h.lt (by omega))).trans (h.has j hj).2⟩⟩
theorem own_pairsAt {W : World} {base : Nat} {ov : Option Addr} {oc : Nat} {l : List (Int × Int)} (h : W.ownsRow base 46 2 (.slice ov l.length oc) l.length (l.flatMap pcells)) : ∃ g, PairsAt W ov g 0 l := by
  obtain ⟨h1, h2⟩ := own_piece h
  by_cases h0 : 0 < l.length
  · obtain ⟨g, hg, _, hlt⟩ := h1 h0
    refine ⟨g, fun _ => hg, fun _ => hlt, fun j hj => ?_⟩
    rw [Nat.zero_add]; exact h2 g hg j hj
  · exact ⟨0, fun h => absurd h h0, fun h => absurd h h0, fun j hj => absurd hj (by omega)⟩
theorem PairsAt.take {W : World} {av : Option Addr} {g off : Nat} {l : List (Int × Int)} (h : PairsAt W av g off l) (k : Nat) : PairsAt W av g off (l.take k) :=
  ⟨fun h0 => h.at_ (by rw [List.length_take] at h0; omega), fun h0 => h.lt (by rw [List.length_take] at h0; omega), fun j hj => by
    have hj' : j < l.length := by rw [List.length_take] at hj; omega
    rw [List.getElem_take]; exact h.has j hj'⟩
theorem PairsAt.drop {W : World} {av av2 : Option Addr} {g off : Nat} {l : List (Int × Int)} (h : PairsAt W av g off l) (k : Nat) (h2 : k < l.length → av2 = some ⟨g, off + k * 2, none⟩) : PairsAt W av2 g (off + k * 2) (l.drop k) :=
  ⟨fun h0 => h2 (by rw [List.length_drop] at h0; omega), fun h0 => h.lt (by rw [List.length_drop] at h0; omega), fun j hj => by
    have hj' : k + j < l.length := by rw [List.length_drop] at hj; omega
    rw [List.getElem_drop, show off + k * 2 + j * 2 = off + (k + j) * 2 by omega]; exact h.has (k + j) hj'⟩
theorem new_pair (w : World) (x : Int × Int) : PairsAt (w.alloc (.cells #[.int .i64 x.1, .int .i64 x.2] 46)) (some ⟨w.heap.size, 0, none⟩) w.heap.size 0 [x] := by
  refine ⟨fun _ => rfl, fun _ => by simp, fun j hj => ?_⟩
  obtain rfl : j = 0 := by simpa using hj
  constructor
  · rw [World.cell?_alloc_new]; rfl
  · rw [World.cell?_alloc_new]; rfl
/-- One pair is put among others: the three appends. -/
theorem ins_runs (W3 : World) (base : Nat) (ov : Option Addr) (oc : Nat) (l : List (Int × Int)) (hO : W3.ownsRow base 46 2 (.slice ov l.length oc) l.length (l.flatMap pcells)) (j : Nat) (hj : j ≤ l.length) (hl : l.length ≤ 100000) (x : Int × Int) :
    ∃ v1 W4, (Builtin.append_ #[28, 28] 28 #[.slice none 0 0, .slice ov j oc]).run Tryd.prog W3 = .ok v1 W4 ∧ Below W3.heap.size W3 W4 ∧
      ∀ W5, Below W4.heap.size W4 W5 → W5.heap.size = W4.heap.size → ∃ v2 W6, (Builtin.append_ #[28, 28] 28 #[v1, .slice (some ⟨W4.heap.size, 0, none⟩) 1 1]).run Tryd.prog (W5.alloc (.cells #[.int .i64 x.1, .int .i64 x.2] 46)) = .ok v2 W6 ∧ Below W3.heap.size W3 W6 ∧
        ∀ av2 c2, (j < l.length → ∀ g, ov = some ⟨g, 0, none⟩ → av2 = some ⟨g, j * 2, none⟩) → ∃ v3 W7, (Builtin.append_ #[28, 28] 28 #[v2, .slice av2 (l.length - j) c2]).run Tryd.prog W6 = .ok v3 W7 ∧ Below W3.heap.size W3 W7 ∧ W7.ownsRow W3.heap.size 46 2 v3 (l.length + 1) ((l.take j ++ x :: l.drop j).flatMap pcells) := by
  obtain ⟨g, hP⟩ := own_pairsAt hO
  have hlt : (l.take j).length = j := by rw [List.length_take]; omega
  have hld : (l.drop j).length = l.length - j := by rw [List.length_drop]
  obtain ⟨v1, W4, ha1, ho1, hg1⟩ := append_pairs W3 28 W3.heap.size (.slice none 0 0) 0 [] (World.ownsRow_nil _ _ _ _) ov oc g 0 (l.take j) (hP.take j) (by omega) (Nat.le_refl _)
  rw [hlt] at ha1 ho1
  rw [Nat.zero_add, List.nil_append] at ho1
  have hb1 : Below W3.heap.size W3 W4 := grown_base (World.ownsRow_nil W3 W3.heap.size 46 2) hg1 (Nat.le_refl _)
  refine ⟨v1, W4, ha1, hb1, fun W5 hb5 hs5 => ?_⟩
  have hn := new_pair W5 x
  have hb5n : Below W4.heap.size W4 (W5.alloc (.cells #[.int .i64 x.1, .int .i64 x.2] 46)) := hb5.alloc (by omega) _
  have ho5 := owns_below ho1 hb5n
  obtain ⟨v2, W6, ha2, ho2, hg2⟩ := append_pairs _ 28 W3.heap.size v1 j _ ho5 (some ⟨W5.heap.size, 0, none⟩) 1 W5.heap.size 0 [x] hn (by simp; omega) (by have := hb1.size; simp; omega)
  rw [hs5] at ha2
  have hb6 : Below W3.heap.size W3 W6 := (hb1.trans (hb5n.mono hb1.size)).trans (grown_base ho5 hg2 (by have := hb1.size; simp; omega))
  refine ⟨v2, W6, ha2, hb6, fun av2 c2 hav => ?_⟩
  have hP6 := hP.below hb6
  have hd : PairsAt W6 av2 g (0 + j * 2) (l.drop j) := hP6.drop j (fun h => by rw [Nat.zero_add]; exact hav h g (hP.at_ (by omega)))
  obtain ⟨v3, W7, ha3, ho3, hg3⟩ := append_pairs W6 28 W3.heap.size v2 (j + 1) _ ho2 av2 c2 g _ (l.drop j) hd (by rw [hld]; omega) (by exact hb6.size)
  rw [hld] at ha3 ho3
  refine ⟨v3, W7, ha3, hb6.trans (grown_base ho2 hg3 hb6.size), ?_⟩
  rw [show j + 1 + (l.length - j) = l.length + 1 by omega] at ho3
  rw [List.flatMap_append, List.flatMap_cons, ← List.append_assoc]
  simpa using ho3

theorem cut_head (ov : Option Addr) (oc m : Nat) (h : (ov = none ∧ oc = 0 ∧ m = 0) ∨ ∃ g, ov = some ⟨g, 0, none⟩) (hm : m ≤ oc) (W : World) :
    (Instr.slice 28 (.slice ov m oc) none (some (.int .i64 (m : Int))) none).run Tryd.prog W = .ok (.slice ov m oc) W := by
  rcases h with ⟨rfl, rfl, rfl⟩ | ⟨g, rfl⟩
  · simp [go_sem]
  · have h1 : ¬ (oc : Int) < (m : Int) := by omega
    simp [go_sem, hm]
theorem cut_tail (ov : Option Addr) (oc m : Nat) (h : (ov = none ∧ oc = 0 ∧ m = 0) ∨ ∃ g, ov = some ⟨g, 0, none⟩) (hm : m ≤ oc) :
    ∃ av2 c2, ∀ W, (Instr.slice 28 (.slice ov m oc) (some (.int .i64 (m : Int))) none none).run Tryd.prog W = .ok (.slice av2 0 c2) W := by
  rcases h with ⟨rfl, rfl, rfl⟩ | ⟨g, rfl⟩
  · exact ⟨none, 0, fun W => by simp [go_sem]⟩
  · by_cases e : oc = m
    · subst e; exact ⟨some ⟨g, 0, none⟩, 0, fun W => by simp [go_sem]; try rfl⟩
    · exact ⟨some ⟨g, m * 2, none⟩, oc - m, fun W => by simp [go_sem, e]; try rfl⟩
/-- What the document's Places answers. -/
def RPl (ls : List Ln) (w : World) (e : Ending) (w' : World) : Prop :=
  Below w.heap.size w w' ∧ ((∃ n, ToldP ls n ∧ e = .returned (.tuple #[.slice none 0 0, .int .i64 n])) ∨ ((∀ x ∈ ls, x.right = true) ∧ (labs ls).Nodup ∧ ∃ av cap, e = .returned (.tuple #[.slice av (placesL ls).length cap, .int .i64 0]) ∧ w'.ownsRow w.heap.size 46 2 (.slice av (placesL ls).length cap) (placesL ls).length ((placesL ls).flatMap pcells)))

end Go.Proofs.YtbfmadcppnfgpaaDoor
