/-
  Bytes that came in, and what is told of them (layer 2).
-/
import Derived.Test.YtnlkeghgmmoioaaDoorSmall
import Derived.Test.YtnlkeghgmmoioaaDoorInj
import Derived.Test.YtnlkeghgmmoioaaDoorEql
import Derived.Lib.QuietBelow
namespace Go.Proofs.YtnlkeghgmmoioaaDoor
open Go.ChangeShapes Go.WideShapes Go.ChangeAt Go.RowKit


/-- A slice of bytes that came in: it has none, or it is a row that is there. -/
def BArg (W : World) (v : Value) (l : List UInt8) : Prop :=
  (l = [] ∧ ∃ av cap, v = .slice av 0 cap) ∨ ∃ blk off cap, v = .slice (some ⟨blk, off, none⟩) l.length cap ∧ blk < W.heap.size ∧ HasBytes W blk off l
theorem BArg.later {W W' : World} {v : Value} {l : List UInt8} (h : BArg W v l) (hb : Below W.heap.size W W') : BArg W' v l := by
  rcases h with h | ⟨blk, off, cap, h1, h2, h3⟩
  · exact .inl h
  · exact .inr ⟨blk, off, cap, h1, Nat.lt_of_lt_of_le h2 hb.size, h3.later h2 hb⟩
theorem BArg.form {W : World} {v : Value} {l : List UInt8} (h : BArg W v l) : ∃ av cap, v = .slice av l.length cap := by
  rcases h with ⟨rfl, av, cap, rfl⟩ | ⟨blk, off, cap, rfl, _, _⟩
  · exact ⟨_, _, rfl⟩
  · exact ⟨_, _, rfl⟩
theorem BArg.conv {W : World} {v : Value} {l : List UInt8} (h : BArg W v l) : (convert 25 9 v).run Tryd.prog W = .ok (.string (bs l)) W := by
  rcases h with ⟨rfl, av, cap, rfl⟩ | ⟨blk, off, cap, rfl, _, h3⟩
  · cases av with
    | none => exact run_convert_bytes_nil (P := Tryd.prog) W 25 5 Tryd.underlying25 Tryd.underlying5 0 cap 9 Tryd.underlying9
    | some a => exact run_convert_bytes_back (P := Tryd.prog) W 25 9 5 a cap [] Tryd.underlying25 Tryd.underlying5 Tryd.underlying9 (fun j hj => absurd hj (Nat.not_lt_zero j))
  · exact h3.conv
theorem BArg.decode {W : World} {v : Value} {l : List UInt8} (h : BArg W v l) :
    Calls Tryd.prog 23 #[v] W fun e w' => e = .returned (decR l) ∧ Below W.heap.size W w' := by
  rcases h with ⟨rfl, av, cap, rfl⟩ | ⟨blk, off, cap, rfl, h2, h3⟩
  · exact decode_short av 0 cap (by decide) W
  · exact decode_any blk off cap l W h2 h3
theorem right_is {x : Bool} {o a b c i : Int} (h : rightB o a b c i = x) (w : World) :
    Calls Tryd.prog 16 #[.agg #[.int .i64 o, .int .i64 a, .int .i64 b, .int .i64 c, .int .i64 i]] w fun e w' => e = .returned (.bool x) ∧ Below w.heap.size w w' := by rw [← h]; exact right_any o a b c i w
theorem bs_toList (l : List UInt8) : (bs l).toList = l := by rw [ByteArray.toList_eq]; rfl
theorem bs_inj {l m : List UInt8} (h : bs l = bs m) : l = m := by rw [← bs_data l, ← bs_data m, h]

end Go.Proofs.YtnlkeghgmmoioaaDoor
