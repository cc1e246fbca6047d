/-
  Const on the machine (layers 4 and 5), told plainly: what a run of its instructions, an output and a halt puts out.
-/
import Derived.Test.YtbfmadcppnfgpaaGreatDoorRefK
import Derived.Test.YtbfmadcppnfgpaaGreatDoorQStep
import Derived.Test.YtbfmadcppnfgpaaGreatDoorQNew
namespace Go.Proofs.YtbfmadcppnfgpaaGreatDoor
open Go.ChangeShapes Go.WideShapes Go.ChangeAt Go.RowKit

/-- An instruction, as the machine's texts have it. -/
abbrev toQ (x : Ins) : Q.Ins := ⟨x.o, x.a, x.b, x.c, x.i⟩
/-- Const, then the register's output, then a halt. -/
def codeC (r n : Int) : List Ins := constL r n ++ [⟨12, r, 0, 0, 0⟩, ⟨0, 0, 0, 0, 0⟩]

theorem bits_or (a b : Int) : bits .or .i64 a b = wrap64 ((Q.uu a ||| Q.uu b : Nat) : Int) := by
  show IntKind.i64.wrap ((BitVec.ofInt 64 a ||| BitVec.ofInt 64 b).toNat : Nat) = _
  rw [BitVec.toNat_or, Q.ofInt_uu, Q.ofInt_uu, IntKind.wrap_i64]; unfold wrap64; rfl
theorem high_is (n : Int) (hn : Fits n) : Q.high (n / 4294967296) (lowOf n) = n := by
  obtain ⟨h1, h2⟩ := hn
  have e1 : Q.wrapM 4294967296 (lowOf n) false = n % 4294967296 := by unfold Q.wrapM; rw [if_neg (by simp)]; unfold lowOf; split <;> omega
  have e2 : wrap64 (n / 4294967296 * 4294967296) = n - n % 4294967296 := by unfold wrap64; omega
  have u2 : Q.uu (n % 4294967296) = (n % 4294967296).toNat := by unfold Q.uu; omega
  have u1 : Q.uu (n - n % 4294967296) = 2 ^ 32 * ((n % 18446744073709551616) / 4294967296).toNat := by unfold Q.uu; omega
  have hlt : (n % 4294967296).toNat < 2 ^ 32 := by omega
  unfold Q.high
  rw [e1, e2, bits_or, u1, u2, ← Nat.two_pow_add_eq_or_of_lt hlt]
  unfold wrap64
  omega

namespace Q
theorem put_reg (s : MS) (r : Nat) (hr : r ≠ 14) (v : Int) : s.put r v = ({ s with regs := s.regs.set r v }, s.place + 1, 0) := if_neg hr
theorem step_do (l : List Ins) (s : MS) (x : Ins) (hs : s.over = false) (hx : insAt l s.place = some x) :
    stepM l s = if (act x.o.toNat x.a.toNat x.b.toNat x.c.toNat x.i s).2.2 = 0 then { (act x.o.toNat x.a.toNat x.b.toNat x.c.toNat x.i s).1 with place := (act x.o.toNat x.a.toNat x.b.toNat x.c.toNat x.i s).2.1 } else (act x.o.toNat x.a.toNat x.b.toNat x.c.toNat x.i s).1.fin (act x.o.toNat x.a.toNat x.b.toNat x.c.toNat x.i s).2.2 0 := by
  unfold stepM doR
  rw [if_neg (by simp [hs]), hx]
theorem step_li (l : List Ins) (s : MS) (r : Nat) (i : Int) (hr : r ≠ 14) (hs : s.over = false) (hx : insAt l s.place = some ⟨1, r, 0, 0, i⟩) : stepM l s = { s with regs := s.regs.set r i, place := s.place + 1 } := by
  rw [step_do l s _ hs hx]
  show (if (s.put r i).2.2 = 0 then { (s.put r i).1 with place := (s.put r i).2.1 } else _) = _
  rw [put_reg s r hr i]; rfl
theorem step_lih (l : List Ins) (s : MS) (r : Nat) (i : Int) (hr : r ≠ 14) (hs : s.over = false) (hx : insAt l s.place = some ⟨2, r, 0, 0, i⟩) : stepM l s = { s with regs := s.regs.set r (high (s.r r) i), place := s.place + 1 } := by
  rw [step_do l s _ hs hx]
  show (if (s.put r (high (s.r r) i)).2.2 = 0 then { (s.put r (high (s.r r) i)).1 with place := (s.put r (high (s.r r) i)).2.1 } else _) = _
  rw [put_reg s r hr _]; rfl
theorem step_put (l : List Ins) (s : MS) (r : Nat) (hs : s.over = false) (hx : insAt l s.place = some ⟨12, r, 0, 0, 0⟩) : stepM l s = { s with out := s.out ++ [s.r r], place := s.place + 1 } := by
  rw [step_do l s _ hs hx]; rfl
theorem step_halt (l : List Ins) (s : MS) (hs : s.over = false) (hx : insAt l s.place = some ⟨0, 0, 0, 0, 0⟩) : (stepM l s).over = true ∧ (stepM l s).out = s.out := by
  rw [step_do l s _ hs hx]; exact ⟨rfl, rfl⟩
theorem run_next (l : List Ins) (k : Nat) (s : MS) (hs : s.over = false) : (runM l (k + 1) s).1 = (runM l k (stepM l s)).1 := by
  show (if s.over = true then (s, 0) else ((runM l k (stepM l s)).1, (runM l k (stepM l s)).2 + 1)).1 = _
  rw [if_neg (by simp [hs])]
theorem run_over (l : List Ins) (k : Nat) (s : MS) (hs : s.over = true) : (runM l k s).1 = s := by
  cases k with
  | zero => rfl
  | succ k => show (if s.over = true then (s, 0) else _).1 = s; rw [if_pos hs]
theorem run_halt (l : List Ins) (k : Nat) (s : MS) (hs : s.over = false) (hx : insAt l s.place = some ⟨0, 0, 0, 0, 0⟩) : (runM l (k + 1) s).1.out = s.out := by
  rw [run_next l k s hs, run_over l k _ (step_halt l s hs hx).1]; exact (step_halt l s hs hx).2
end Q

theorem run_const (r : Nat) (n : Int) (hr : r < 14) (hn : Fits n) : (Q.runM ((codeC r n).map toQ) 10 (Q.MS.init 5 [])).1.out = [n] := by
  unfold codeC constL
  split
  · simp only [List.map_cons, List.map_nil, List.cons_append, List.nil_append, toQ]
    rw [Q.run_next _ 9 _ rfl, Q.step_li _ _ r n (by omega) rfl rfl, Q.run_next _ 8 _ rfl, Q.step_put _ _ r rfl rfl, Q.run_halt _ 7 _ rfl rfl]
    simp [Q.MS.r, show r < 16 by omega, Q.MS.init]
  · simp only [List.map_cons, List.map_nil, List.cons_append, List.nil_append, toQ]
    rw [Q.run_next _ 9 _ rfl, Q.step_li _ _ r _ (by omega) rfl rfl, Q.run_next _ 8 _ rfl, Q.step_lih _ _ r _ (by omega) rfl rfl, Q.run_next _ 7 _ rfl, Q.step_put _ _ r rfl rfl, Q.run_halt _ 6 _ rfl rfl]
    have e : ((Q.MS.init 5 []).regs.set r (n / 4294967296)).getD r 0 = n / 4294967296 := by simp [show r < 16 by omega, Q.MS.init]
    simp [Q.MS.r, show r < 16 by omega, Q.MS.init, high_is n hn]

theorem code_right (r n : Int) (h0 : 0 ≤ r) (hr : r < 14) (hn : Fits n) : Q.allRight ((codeC r n).map toQ) = true := by
  obtain ⟨h1, h2⟩ := hn
  have hl : -2147483648 ≤ lowOf n ∧ lowOf n ≤ 2147483647 := by unfold lowOf; split <;> omega
  have hb : Q.regB r true = true := by unfold Q.regB; simp; omega
  unfold codeC constL Q.allRight
  split
  · rename_i h
    simp [Q.Ins.right, Q.rightB, Q.holdB, Q.fK, Q.fA, Q.fB, Q.fC, Q.fI, Q.immB, Q.regB, h, h0]; omega
  · simp [Q.Ins.right, Q.rightB, Q.holdB, Q.fK, Q.fA, Q.fB, Q.fC, Q.fI, Q.immB, Q.regB, hl, h0]; omega

end Go.Proofs.YtbfmadcppnfgpaaGreatDoor
