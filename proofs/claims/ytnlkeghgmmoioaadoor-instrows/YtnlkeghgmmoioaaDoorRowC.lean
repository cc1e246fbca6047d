/-
  The law InstRows (layer 2), by walks over the translation.
-/
import Derived.Test.YtnlkeghgmmoioaaDoorRowB
import Derived.Test.YtnlkeghgmmoioaaDoorEncB
namespace Go.Proofs.YtnlkeghgmmoioaaDoor
open Go.ChangeShapes Go.WideShapes Go.ChangeAt Go.RowKit

set_option maxRecDepth 100000 in
set_option maxHeartbeats 2000000 in
theorem rows_walk (v : Value) (l : List Ins) (w : World) (hT : Tabs w) (hv : IsRow w v l) :
    Calls Tryd.prog 5 #[v] w fun e w' => e = .returned (.bool true) ∧ Below w.heap.size w w' := by
  obtain ⟨av, cap, rfl, hav⟩ := hv
  generalize hn : l.length = n at hav
  by_cases hbig : 200 < n
  · have e1 : ((200 : Int) < n) = True := by simp; omega
    go_enter Tryd.func5, Tryd.ntmps5
    go_wp2_with fail
    refine (small_any _ hT).mono ?_; rintro e w1 ⟨rfl, hb1⟩
    go_wp2
    go_ret
    exact ⟨rfl, hb1⟩
  have e1 : ((200 : Int) < n) = False := by simp; omega
  have later : ∀ W, Below w.heap.size w W → (0 < n → ∃ blk off, av = some ⟨blk, off, none⟩ ∧ blk < W.heap.size ∧ HasInsts W blk off l) := fun W hb h0 => by
    obtain ⟨blk, off, h1, h2, h3⟩ := hav h0
    exact ⟨blk, off, h1, Nat.lt_of_lt_of_le h2 hb.size, fun j hj => (h3 j hj).below hb h2⟩
  go_enter Tryd.func5, Tryd.ntmps5
  go_wp2_with fail
  refine (small_any _ hT).mono ?_; rintro e w1 ⟨rfl, hb1⟩
  go_wp2_with fail
  refine (encodeAll_any av n cap l w1 hn (by omega) (later w1 hb1)).mono ?_
  rintro e w2 ⟨hb2, (⟨hr, blk, hk1, hk2, rfl, hB⟩ | ⟨hx, rfl⟩)⟩
  · rw [hn]
    obtain ⟨hB2, hz2⟩ := bel_on hb1 hb2
    go_wp2_with fail
    refine (refEncodeAll_any av n cap l w2 hn (by omega) (later w2 hB2)).mono ?_
    rintro e w3 ⟨hb3, (⟨_, v2, rfl, hB3⟩ | ⟨⟨x, hx, hxr⟩, _⟩)⟩
    · obtain ⟨hB3', hz3⟩ := bel_on hB2 hb3
      have hBl := hB.later hk2 hb3
      have q1 := hBl.conv (cap := n * 8)
      have q2 := hB3.conv
      rw [enc_len, hn] at q1
      generalize bs (l.flatMap Ins.enc) = s at q1 q2
      have hdn : (l.flatMap Ins.enc).length = n * 8 := by rw [enc_len, hn]
      go_wp2_with fail
      refine (decodeAll_any (some ⟨blk, 0, none⟩) (n * 8) (n * 8) _ w3 hdn (by omega) (Nat.le_refl _) (by omega) (fun _ => ⟨blk, 0, rfl, Nat.lt_of_lt_of_le hk2 hb3.size, hBl⟩)).mono ?_
      rintro e w4 ⟨hb4, (⟨xs, v4, hD, rfl, hR⟩ | ⟨hD, _⟩)⟩
      · obtain ⟨hB4, hz4⟩ := bel_on hB3' hb4
        obtain rfl := (decAll_enc l hr).uniq hD
        have hsame := same_rows (W := w4) (v1 := .slice av n cap) (v2 := v4) (l := l) (by omega) ⟨av, cap, by rw [hn], fun h0 => later w4 hB4 (by omega)⟩ hR
        obtain ⟨av4, cap4, rfl, _⟩ := hR
        rw [hn] at hsame ⊢
        clear q1 q2
        have hm : ((n : Int) * 8 == 8 * (n : Int)) = true := by simp; omega
        go_wp2_with fail
        refine hsame.mono ?_; rintro e w5 ⟨rfl, hb5⟩
        go_wp2_with fail
        go_ret
        exact ⟨rfl, (bel_on hB4 hb5).1⟩
      · exact ((decAll_enc l hr).not hD).elim
    · rw [hr x hx] at hxr; cases hxr
  · obtain ⟨hB2, hz2⟩ := bel_on hb1 hb2
    obtain ⟨x, hx, hxr⟩ := hx
    go_wp2_with fail
    refine (refEncodeAll_any av n cap l w2 hn (by omega) (later w2 hB2)).mono ?_
    rintro e w3 ⟨hb3, (⟨hr, _⟩ | ⟨_, rfl⟩)⟩
    · rw [hr x hx] at hxr; cases hxr
    · obtain ⟨hB3', hz3⟩ := bel_on hB2 hb3
      have q1 : (convert 25 9 (.slice none 0 0)).run Tryd.prog w3 = .ok (.string (bs [])) w3 := run_convert_bytes_nil (P := Tryd.prog) w3 25 5 Tryd.underlying25 Tryd.underlying5 0 0 9 Tryd.underlying9
      go_wp2_with fail
      go_ret
      exact ⟨rfl, hB3'⟩

end Go.Proofs.YtnlkeghgmmoioaaDoor
