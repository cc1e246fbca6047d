/-
  A map of labels (layer 5): how it lies, and what it holds.
-/
import Derived.Test.YtbfmadcppnfgpaaGreatDoorRight
import Derived.Test.YtbfmadcppnfgpaaGreatDoorRange
import Derived.Maps.OwnIn
import Derived.Maps.Views
import Derived.Lib.SlKeysI
namespace Go.Proofs.YtbfmadcppnfgpaaGreatDoor
open Go.ChangeShapes Go.WideShapes Go.ChangeAt Go.RowKit Go.Maps

theorem law3 : Keyed Tryz.prog 3 := int_keyed Tryz.underlying3
theorem zero3 (w : World) : (zeroValue 3).run Tryz.prog w = .ok (.int .i64 0) w := by kernel_rfl

/-- A number that the language holds. -/
abbrev Fits (n : Int) : Prop := -9223372036854775808 ≤ n ∧ n ≤ 9223372036854775807
theorem Fits.wf {n : Int} (h : Fits n) : (Lit.int .i64 n).wf = true := WalkArith.wf_i64 (by have := h.1; have := h.2; omega)

/-- The block mb holds a map of just these labels and places. -/
def LabMap (W : World) (mb : Nat) (es : List (Int × Int)) : Prop := ∃ D : DataW Unit, W.ownsMap Tryz.prog 3 (plainElem Tryz.prog 3) mb es.length D ∧ (∀ a, has D (.int .i64 a) = decide (a ∈ es.map Prod.fst)) ∧ (∀ p ∈ es, D.atKey (.int .i64 p.1) (.lit (.int .i64 0)) = .lit (.int .i64 p.2)) ∧ size D = es.length ∧ (es.map Prod.fst).Nodup
theorem LabMap.on {W W' : World} {mb : Nat} {es : List (Int × Int)} (h : LabMap W mb es) (hb : W'.heap[mb]? = W.heap[mb]?) : LabMap W' mb es := by
  obtain ⟨D, ⟨es', cl, a1, a2⟩, r⟩ := h
  exact ⟨D, ⟨es', cl, hb.trans a1, a2⟩, r⟩
theorem LabMap.lt {W : World} {mb : Nat} {es : List (Int × Int)} (h : LabMap W mb es) : mb < W.heap.size := by
  obtain ⟨D, h, _⟩ := h; exact h.lt
theorem LabMap.made (W : World) : LabMap (W.alloc (.map #[] 0)) W.heap.size [] :=
  ⟨.map [], World.ownsMap_made _ _ _ _, fun a => by simp [has], fun p hp => by simp at hp, rfl, by simp⟩
/-- One label more. -/
theorem LabMap.put {W W' : World} {mb : Nat} {es : List (Int × Int)} {D : DataW Unit} (ho : W.ownsMap Tryz.prog 3 (plainElem Tryz.prog 3) mb es.length D) (hh : ∀ a, has D (.int .i64 a) = decide (a ∈ es.map Prod.fst)) (hv : ∀ p ∈ es, D.atKey (.int .i64 p.1) (.lit (.int .i64 0)) = .lit (.int .i64 p.2)) (hs : size D = es.length) (hnd : (es.map Prod.fst).Nodup)
    {a v : Int} (hn : a ∉ es.map Prod.fst) (h1 : W'.ownsMap Tryz.prog 3 (plainElem Tryz.prog 3) mb (es.length + 1) (D.put (.int .i64 a) (.lit (.int .i64 v)))) : LabMap W' mb (es ++ [(a, v)]) := by
  have hm : IsMap D := ho.isMap
  have hf : has D (.int .i64 a) = false := by rw [hh]; simpa using hn
  refine ⟨_, by simpa using h1, fun b => ?_, fun p hp => ?_, ?_, ?_⟩
  · by_cases hb : b = a
    · subst hb
      rw [has_put_same hm (by trivial)]; simp
    · rw [has_put_other (by intro e; cases e; exact hb rfl), hh]
      simp [hb]
  · rcases List.mem_append.1 hp with hp | hp
    · have : p.1 ≠ a := fun e => hn (by rw [← e]; exact List.mem_map.2 ⟨p, hp, rfl⟩)
      rw [atKey_put_other (by intro e; cases e; exact this rfl)]
      exact hv p hp
    · simp at hp; subst hp
      exact atKey_put_same hm (by trivial) _ _
  · rw [size_put (ho.tidy law3), hf, hs]; simp
  · rw [List.map_append, List.nodup_append]
    exact ⟨hnd, by simp, fun x hx y hy => by simp at hy; subst hy; exact fun e => hn (e ▸ hx)⟩

/-- The labels among the first k lines, each with its place. -/
def tab (ls : List Ln) : Nat → List (Int × Int)
  | 0 => []
  | k + 1 => match ls[k]? with
    | some x => if x.L = 0 then tab ls k else tab ls k ++ [(x.L, (plc ls k : Int))]
    | none => tab ls k
theorem tab_zero (ls : List Ln) : tab ls 0 = [] := rfl
theorem tab_inst (ls : List Ln) (k : Nat) (h : k < ls.length) (hz : (ls[k]'h).L = 0) : tab ls (k + 1) = tab ls k := by
  simp [tab, h, hz]
theorem tab_label (ls : List Ln) (k : Nat) (h : k < ls.length) (hz : ¬ (ls[k]'h).L = 0) : tab ls (k + 1) = tab ls k ++ [((ls[k]'h).L, (plc ls k : Int))] := by
  simp [tab, h, hz]
theorem tab_pre (ls : List Ln) (k m : Nat) : tab ls k <+: tab ls (k + m) := by
  induction m with
  | zero => exact List.prefix_rfl
  | succ m ih =>
    refine ih.trans ?_
    rw [← Nat.add_assoc]
    show tab ls (k + m) <+: (match ls[k + m]? with | some x => if x.L = 0 then tab ls (k + m) else tab ls (k + m) ++ [(x.L, (plc ls (k + m) : Int))] | none => tab ls (k + m))
    split
    · split
      · exact List.prefix_rfl
      · exact List.prefix_append _ _
    · exact List.prefix_rfl
/-- The labels of all lines. -/
def labs (ls : List Ln) : List Int := (tab ls ls.length).map Prod.fst
theorem twice_of (ls : List Ln) (k : Nat) (h : k < ls.length) (hz : ¬ (ls[k]'h).L = 0) (hin : (ls[k]'h).L ∈ (tab ls k).map Prod.fst) : ¬ (labs ls).Nodup := by
  intro hn
  obtain ⟨m, hm⟩ : ∃ m, ls.length = k + 1 + m := ⟨ls.length - (k + 1), by omega⟩
  have hp : ((tab ls (k + 1)).map Prod.fst) <+: labs ls := by
    unfold labs; rw [hm]; exact (tab_pre ls (k + 1) m).map _
  have := hn.sublist hp.sublist
  rw [tab_label ls k h hz, List.map_append, List.nodup_append] at this
  exact this.2.2 _ hin _ (by simp) rfl
theorem tab_len (ls : List Ln) : ∀ k, k ≤ ls.length → (tab ls k).length + plc ls k = k
  | 0, _ => by simp [tab, plc]
  | k + 1, hk => by
    have ih := tab_len ls k (by omega)
    rw [plc_succ ls k (by omega)]
    by_cases hz : (ls[k]'(by omega)).L = 0
    · rw [tab_inst ls k (by omega) hz, if_pos hz]; omega
    · rw [tab_label ls k (by omega) hz, if_neg hz, List.length_append]; simp; omega

end Go.Proofs.YtbfmadcppnfgpaaGreatDoor
