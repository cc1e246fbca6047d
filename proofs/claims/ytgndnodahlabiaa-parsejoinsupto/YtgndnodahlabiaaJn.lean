/-
  Tokens in a row, and their texts in one (layer 9): the contract of Join.
-/
import Derived.Test.YtgndnodahlabiaaLex
namespace Go.Proofs.Ytgndnodahlabiaa
open Go.ChangeShapes Go.WideShapes Go.ChangeAt Go.RowKit Go.Shelf

attribute [local go_sem] Oper.semAt_some

/-- A token of any numbers. -/
structure Tz where
  k : Int
  t : List UInt8
  a : Int
abbrev zcells (x : Tz) : List Value := [.int .i64 x.k, .string (bs x.t), .int .i64 x.a]
def z0 : Tz := ⟨0, [], 0⟩
abbrev Tok.z (x : Tok) : Tz := ⟨(x.k : Int), x.t, (x.a : Int)⟩
theorem z_at (ts : List Tok) (k : Nat) (h : k < ts.length) : (ts.map Tok.z).getD k z0 = (ts.getD k tok0).z := by
  rw [List.getD_eq_getElem?_getD, List.getD_eq_getElem?_getD, List.getElem?_map, List.getElem?_eq_getElem h]; rfl
/-- A row of tokens that can be read. -/
def TokRow (W : World) (v : Value) (zs : List Tz) : Prop := ∃ (av : Option Addr) (cap blk off : Nat), v = .slice av zs.length cap ∧ (0 < zs.length → av = some ⟨blk, off, none⟩ ∧ blk < W.heap.size) ∧ ∀ k f, k < zs.length → f < 3 → W.cell? ⟨blk, off + k * 3 + f, none⟩ = (zcells (zs.getD k z0))[f]?
theorem TokRow.below {W W' : World} {v : Value} {zs : List Tz} (h : TokRow W v zs) (hb : Below W.heap.size W W') : TokRow W' v zs := by
  obtain ⟨av, cap, blk, off, h1, h2, h3⟩ := h
  exact ⟨av, cap, blk, off, h1, fun h0 => ⟨(h2 h0).1, Nat.lt_of_lt_of_le (h2 h0).2 hb.size⟩, fun k f hk hf => (hb.cell (p := ⟨blk, off + k * 3 + f, none⟩) (h2 (by omega)).2).trans (h3 k f hk hf)⟩
theorem TokRow.of_owns {W : World} {base : Nat} {v : Value} {ts : List Tok} (h : W.ownsRow base 41 3 v ts.length (ts.flatMap tcells)) : TokRow W v (ts.map Tok.z) := by
  obtain ⟨av, cap, rfl, _⟩ := owns_shape h
  by_cases h0 : 0 < ts.length
  · obtain ⟨gb, c', e, _, hlt⟩ := h.form h0
    injection e with e1 e2 e3
    subst e1
    refine ⟨_, cap, gb, 0, by rw [List.length_map], fun _ => ⟨rfl, hlt⟩, fun k f hk hf => ?_⟩
    rw [List.length_map] at hk
    rw [Nat.zero_add, z_at ts k hk, h.cellAt (k * 3 + f) (by omega), flat_get ts k f hk hf]
  · exact ⟨av, cap, 0, 0, by rw [List.length_map], fun h => by rw [List.length_map] at h; exact absurd h h0, fun k f hk => by rw [List.length_map] at hk; omega⟩

/-- The texts behind the first one, each with a blank ahead. -/
def jrest : List Tz → List UInt8
  | [] => []
  | x :: r => 32 :: (x.t ++ jrest r)
def joinL : List Tz → List UInt8
  | [] => []
  | x :: r => x.t ++ jrest r
/-- What is left to be written behind k tokens. -/
def jleft (k : Nat) (zs : List Tz) : List UInt8 := if k = 0 then joinL zs else jrest (zs.drop k)
theorem jleft_at (zs : List Tz) (k : Nat) (h : k < zs.length) : jleft k zs = (if k = 0 then [] else [32]) ++ (zs.getD k z0).t ++ jleft (k + 1) zs := by
  unfold jleft
  rw [if_neg (Nat.succ_ne_zero k)]
  have e : zs.drop k = zs.getD k z0 :: zs.drop (k + 1) := by
    rw [List.drop_eq_getElem_cons h, List.getD_eq_getElem?_getD, List.getElem?_eq_getElem h]; rfl
  by_cases hk : k = 0
  · subst hk
    rw [if_pos rfl, if_pos rfl]
    rw [List.drop_zero] at e
    rw [e]; simp [joinL]
  · rw [if_neg hk, if_neg hk, e]
    simp [jrest]


end Go.Proofs.Ytgndnodahlabiaa
