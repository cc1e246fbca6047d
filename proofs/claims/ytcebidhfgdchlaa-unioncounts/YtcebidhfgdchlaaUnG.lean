/-
  Sets in memory (layer 8): the contract of Find.
-/
import Derived.Test.YtcebidhfgdchlaaUnF
import Derived.Deep.QuietTactic
namespace Go.Proofs.Ytcebidhfgdchlaa
open Go.ChangeShapes Go.WideShapes Go.ChangeAt Go.RowKit Go.Shelf Go.Maps

/-- The least one of a key's class. -/
def LeastOf (st : List Th) (k m : Int) : Prop := KS st k m ∧ ∀ l, KS st k l → m ≤ l

set_option maxRecDepth 100000 in
set_option maxHeartbeats 1000000 in
theorem find_is (base X mb : Nat) (v : Value) (st : List Th) (k : Int) (hk : Fits k) (hl : st.length ≤ 1000000) (w : World) (h : SAt w base X mb v st) :
    Calls Try.prog 12 #[.pointer (some ⟨X, 0, none⟩), .int .i64 k] w fun e w' => (∃ q, w' = w.drewN q) ∧ ((k ∉ st.map Th.key ∧ e = .returned (.tuple #[.int .i64 0, .bool false])) ∨ ∃ m, LeastOf st k m ∧ e = .returned (.tuple #[.int .i64 m, .bool true])) := by
  have HA := hide (place_is base X mb v st k hk w h)
  have HS := hide h
  clear h
  go_enter Try.func12, Try.ntmps12
  go_wp2_with fail
  refine HA.out.mono ?_
  clear HA
  rintro e w1 ⟨rfl, ⟨i, hi, hik, rfl⟩ | ⟨hno, rfl⟩⟩
  · obtain ⟨r, hr⟩ := HS.out.uf.tops i hi
    have hrl := hr.lt.2.1
    obtain ⟨hle, j, hj, hjk⟩ := HS.out.uf.least r hrl hr.lt.2.2
    have HL : Hid (LeastOf st k (at_ st r).least) := ⟨⟨i, j, r, hr, hj, hik, hjk⟩, fun l ⟨i', j', r', t1, t2, e1, e2⟩ => by
      have x1 := key_inj HS.out.uf t1.lt.1 hi (e1.trans hik.symm)
      subst x1
      rw [← e2, ← hr.det t1] at *
      exact hle j' (hr.det t1 ▸ t2)⟩
    have HT : Hid (∀ q, Calls Try.prog 23 #[.pointer (some ⟨X, 0, none⟩), .int .i64 (i : Int)] (w1.drewN q) fun e w' => e = .returned (.int .i64 (r : Int)) ∧ w' = w1.drewN q) := fun q => top_is base X mb v st i r hr hl (w1.drewN q) (HS.out.turns (Q := fun _ => False) ⟨rfl, rfl, rfl, Nat.le_refl _, fun _ _ _ => rfl⟩ (fun h => h) (fun h => h) (fun _ _ h => h))
    obtain ⟨TB, cap, hve, -, -, hc⟩ := HS.out.cell hrl
    subst hve
    have c2 : w1.cell? ⟨X, 2, none⟩ = some (.slice (some ⟨TB, 0, none⟩) st.length cap) := cell_of HS.out.box 2
    have s4 : w1.cell? ⟨TB, r * 5 + 4, none⟩ = some (.int .i64 (at_ st r).least) := hc 4 (by decide)
    have hri : ((r : Int) < (st.length : Int)) = True := eq_true (by omega)
    have hrb : r ≤ 1000000 := by omega
    clear hc hr hle hj hjk hi hik HS
    generalize (at_ st r).least = m at *
    go_wp2
    go_quiet ((go_at_call 23; exact Calls.quiet_of_same (HT.out _)))
    go_wp2
    go_ret2
    exact ⟨⟨_, rfl⟩, .inr ⟨m, HL.out, rfl⟩⟩
  · have HN := hide hno
    clear hno
    go_wp2
    go_ret2
    exact ⟨⟨0, rfl⟩, .inl ⟨HN.out, rfl⟩⟩

end Go.Proofs.Ytcebidhfgdchlaa
