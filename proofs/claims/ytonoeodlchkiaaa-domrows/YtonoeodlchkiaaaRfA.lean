/-
  The document's own Right and Flags (layer 6): their contracts.
-/
import Derived.Test.YtonoeodlchkiaaaSame
namespace Go.Proofs.Ytonoeodlchkiaaa
open Go.ChangeShapes Go.WideShapes Go.ChangeAt Go.RowKit Go.Shelf

/-- A row of numbers that may be blocks. -/
def RowOk (g : List (List Int)) (b : Nat) : Prop := (g.getD b []).length ≤ 8 ∧ ∀ k, k < (g.getD b []).length → 0 ≤ (g.getD b []).getD k 0 ∧ (g.getD b []).getD k 0 < (g.length : Int)
theorem getDI_mem (r : List Int) (t : Int) : t ∈ r ↔ ∃ k, k < r.length ∧ r.getD k 0 = t := by
  rw [List.mem_iff_getElem]
  constructor
  · rintro ⟨m, hm, e⟩; exact ⟨m, hm, by rw [List.getD_eq_getElem?_getD, List.getElem?_eq_getElem hm]; exact e⟩
  · rintro ⟨m, hm, e⟩; exact ⟨m, hm, by rw [List.getD_eq_getElem?_getD, List.getElem?_eq_getElem hm] at e; exact e⟩
theorem rightI_rows {g : List (List Int)} : RightI g ↔ 1 ≤ g.length ∧ g.length ≤ 4096 ∧ ∀ b, b < g.length → RowOk g b := by
  constructor
  · intro h
    refine ⟨h.one, h.most, fun b hb => ⟨h.rows b hb, fun k hk => ?_⟩⟩
    exact h.lt (b, (g.getD b []).getD k 0) ((mem_edgI g b _).2 ⟨hb, (getDI_mem _ _).2 ⟨k, hk, rfl⟩⟩)
  · rintro ⟨h1, h2, h3⟩
    refine ⟨h1, h2, fun b hb => (h3 b hb).1, ?_⟩
    rintro ⟨i, t⟩ he
    obtain ⟨hi, ht⟩ := (mem_edgI g i t).1 he
    obtain ⟨k, hk, rfl⟩ := (getDI_mem _ _).1 ht
    exact (h3 i hi).2 k hk

set_option maxRecDepth 100000 in
set_option maxHeartbeats 2000000 in
/-- The document's Right. -/
theorem rright_is (av : Option Addr) (cap blk off : Nat) (hd : Nat → Hdr) (g : List (List Int)) (hl : g.length ≤ 40) (hl2 : ∀ b, (g.getD b []).length ≤ 20) (w : World) (hG : GAt w av blk off hd g) :
    Calls Try.prog 31 #[.slice av g.length cap] w fun e w' => e = .returned (.bool (rightB g)) ∧ w' = w := by
  have HG := hide hG
  clear hG
  go_enter Try.func31, Try.ntmps31
  go_wp2
  go_loopw [3] (fun i wr => w = wr ∧ ∃ k : Nat, i = .int .i64 k ∧ k ≤ g.length ∧ ∀ b, b < k → RowOk g b) (fun i _ => 100 - (intOf i).toNat)
  case atStart => exact ⟨rfl, 0, rfl, Nat.zero_le _, fun b hb => absurd hb (Nat.not_lt_zero _)⟩
  case round =>
    obtain ⟨rfl, k, rfl, hk, hall⟩ := hrel
    have HA := hide hall
    clear hall
    by_cases h1 : k < g.length
    · have e1 : ((k : Int) < (g.length : Int)) = True := eq_true (by omega)
      obtain rfl := HG.out.at_ (by omega)
      have c1 := HG.out.has k h1
      have hrl := hl2 k
      have HR : Hid (∀ j, j < (g.getD k []).length → (hd k).av = some ⟨(hd k).blk, (hd k).off, none⟩ ∧ w.cell? ⟨(hd k).blk, (hd k).off + j, none⟩ = some (.int .i64 ((g.getD k []).getD j 0))) := fun j hj => ⟨HG.out.rat k h1 (by omega), HG.out.rhas k j h1 hj⟩
      have HOK : Hid (RowOk g k ↔ (g.getD k []).length ≤ 8 ∧ ∀ j, j < (g.getD k []).length → 0 ≤ (g.getD k []).getD j 0 ∧ (g.getD k []).getD j 0 < (g.length : Int)) := Iff.rfl
      have HNO : Hid (¬ RowOk g k → rightB g = false) := fun hn => rightB_false (fun h => hn ((rightI_rows.1 h).2.2 k h1))
      generalize g.getD k [] = row at *
      by_cases h8 : (8 : Int) < (row.length : Int)
      · have HF := hide (HNO.out (fun h => by have := (HOK.out.1 h).1; omega))
        generalize row.length = n at *
        go_wp2
        go_ret
        exact ⟨by rw [HF.out]; rfl, rfl⟩
      · have h8' : row.length ≤ 8 := by omega
        generalize hn : row.length = n at *
        have HN := hide hn
        clear hn
        go_wp2
        go_loopw [4] (fun i wr => w = wr ∧ ∃ j : Nat, i = .int .i64 j ∧ j ≤ n ∧ ∀ b, b < j → 0 ≤ row.getD b 0 ∧ row.getD b 0 < (g.length : Int)) (fun i _ => 100 - (intOf i).toNat)
        case atStart => exact ⟨rfl, 0, rfl, Nat.zero_le _, fun b hb => absurd hb (Nat.not_lt_zero _)⟩
        case round =>
          obtain ⟨rfl, j, rfl, hj, hall⟩ := hrel
          have HB := hide hall
          clear hall
          by_cases hjl : j < n
          · have e2 : ((j : Int) < (n : Int)) = True := eq_true (by omega)
            obtain ⟨hav, c2⟩ := HR.out j hjl
            rw [hav] at c1
            have HNJ : Hid (¬ (0 ≤ row.getD j 0 ∧ row.getD j 0 < (g.length : Int)) → rightB g = false) := fun hn => HNO.out (fun h => hn ((HOK.out.1 h).2 j hjl))
            have HS : Hid (0 ≤ row.getD j 0 → row.getD j 0 < (g.length : Int) → ∀ b, b < j + 1 → 0 ≤ row.getD b 0 ∧ row.getD b 0 < (g.length : Int)) := fun a1 a2 b hb => by
              rcases Nat.lt_or_ge b j with h | h
              · exact HB.out b h
              · obtain rfl : b = j := by omega
                exact ⟨a1, a2⟩
            generalize row.getD j 0 = x at *
            by_cases hx1 : x < 0
            · have HF := hide (HNJ.out (fun h => by omega))
              go_wp2
              go_ret
              exact ⟨by rw [HF.out]; rfl, rfl⟩
            · by_cases hx2 : (g.length : Int) ≤ x
              · have HF := hide (HNJ.out (fun h => by omega))
                go_wp2
                go_ret
                exact ⟨by rw [HF.out]; rfl, rfl⟩
              · have HR2 := hide (HS.out (by omega) (by omega))
                go_wp2
                go_roundw
                case rel => exact ⟨trivial, j + 1, by go_num, hjl, HR2.out⟩
                case measure => simp [intOf]; omega
          · have e2 : ((j : Int) < (n : Int)) = False := eq_false (by omega)
            obtain rfl : j = n := by omega
            have HA2 : Hid (∀ b, b < k + 1 → RowOk g b) := fun b hb => by
              rcases Nat.lt_or_ge b k with h | h
              · exact HA.out b h
              · obtain rfl : b = k := by omega
                exact HOK.out.2 ⟨h8', HB.out⟩
            go_wp2
            go_roundw
            case rel => exact ⟨trivial, k + 1, by go_num, h1, HA2.out⟩
            case measure => simp [intOf]; omega
    · have e1 : ((k : Int) < (g.length : Int)) = False := eq_false (by omega)
      obtain rfl : k = g.length := by omega
      by_cases h0 : (1 : Int) ≤ (g.length : Int)
      · have HF := hide (rightB_true.2 (rightI_rows.2 ⟨by omega, by omega, HA.out⟩))
        have e3 : ((g.length : Int) ≤ 4096) = True := eq_true (by omega)
        go_wp2
        go_ret
        exact ⟨by rw [HF.out]; rfl, rfl⟩
      · have HF := hide (rightB_false (g := g) (fun h => by have := h.one; omega))
        go_wp2
        go_ret
        exact ⟨by rw [HF.out]; rfl, rfl⟩

end Go.Proofs.Ytonoeodlchkiaaa
