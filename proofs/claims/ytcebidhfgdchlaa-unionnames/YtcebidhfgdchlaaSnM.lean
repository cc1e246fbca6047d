/-
  Sets of names in memory (layer 8): the contract of Class.
-/
import Derived.Test.YtcebidhfgdchlaaSnK
import Derived.Test.YtcebidhfgdchlaaSnG
import Derived.Test.YtcebidhfgdchlaaUnM
namespace Go.Proofs.Ytcebidhfgdchlaa
open Go.ChangeShapes Go.WideShapes Go.ChangeAt Go.RowKit Go.Shelf Go.Maps

set_option maxRecDepth 100000 in
set_option maxHeartbeats 1000000 in
theorem classpN_is (base X mb : Nat) (v : Value) (st : List Th) (k : Int) (hk : Fk k) (hl : st.length ≤ 100000) (w : World) (h : NAt w base X mb v st) :
    Calls Try.prog 15 #[.pointer (some ⟨X, 0, none⟩), .string (kt k)] w fun e w' => ∃ (v' : Value) (l : List Int), e = .returned v' ∧ w'.ownsRow w.heap.size 9 1 v' l.length (namesI l) ∧ Below w.heap.size w w' ∧ IsClass st k l := by
  have HA := hide (placeN_is base X mb v st k hk w h)
  have HC : Hid (∀ i, i < st.length → (at_ st i).key = k → Calls Try.prog 29 #[.pointer (some ⟨X, 0, none⟩), .int .i64 (i : Int)] w fun e w' => ∃ (v' : Value) (l : List Int), e = .returned v' ∧ w'.ownsRow w.heap.size 9 1 v' l.length (namesI l) ∧ Below w.heap.size w w' ∧ IsClass st k l) := fun i hi hik => by
    obtain ⟨r, hr⟩ := h.uf.tops i hi
    refine (classN_is base X mb v st i r hr hl w h).mono ?_
    rintro e w' ⟨v', l, h1, h2, h3, h4, h5, h6⟩
    exact ⟨v', l, h1, h2, h3, h4, h5, fun m => by rw [h6, hik]⟩
  clear h
  go_enter Try.func15, Try.ntmps15
  go_wp2_with fail
  refine HA.out.mono ?_
  clear HA
  rintro e w1 ⟨rfl, ⟨i, hi, hik, rfl⟩ | ⟨hno, rfl⟩⟩
  · have HI := hide (HC.out i hi hik)
    clear HC hi hik
    go_wp2_with fail
    refine HI.out.mono ?_
    clear HI
    rintro e w2 ⟨v', l, rfl, h2, h3, h4⟩
    have HF := hide (And.intro h2 (And.intro h3 h4))
    clear h2 h3 h4
    go_wp2
    go_ret
    exact ⟨v', l, rfl, HF.out.1, HF.out.2.1, HF.out.2.2⟩
  · have HN := hide hno
    clear hno HC
    go_wp2
    go_ret
    exact ⟨.slice none 0 0, [], rfl, World.ownsRow_nil _ _ _ _, Below.refl _ _, Nat.zero_le _, List.Pairwise.nil, fun m => ⟨fun h => by simp at h, fun h => absurd (ks_mem h).1 HN.out⟩⟩
end Go.Proofs.Ytcebidhfgdchlaa
