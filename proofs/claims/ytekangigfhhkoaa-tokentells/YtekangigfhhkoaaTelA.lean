/-
  The law TokenTells (layer 9): its walk.
-/
import Derived.Test.YtekangigfhhkoaaRef
namespace Go.Proofs.Ytekangigfhhkoaa
open Go.ChangeShapes Go.WideShapes Go.ChangeAt Go.RowKit Go.Shelf

theorem jrest_few : ∀ (zs : List Tz) (m : Nat), (∀ j, j < zs.length → (zs.getD j z0).t.length ≤ m) → (jrest zs).length ≤ zs.length * (m + 1)
  | [], m, _ => by simp [jrest]
  | x :: r, m, h => by
    have h0 := h 0 (by simp)
    have ih := jrest_few r m (fun j hj => h (j + 1) (by simpa using hj))
    have h0' : x.t.length ≤ m := h0
    show (32 :: (x.t ++ jrest r)).length ≤ _
    rw [List.length_cons, List.length_append, List.length_cons, Nat.add_mul]
    omega
theorem joinL_few (zs : List Tz) (m : Nat) (h : ∀ j, j < zs.length → (zs.getD j z0).t.length ≤ m) : (joinL zs).length ≤ zs.length * (m + 1) := by
  cases zs with
  | nil => simp [joinL]
  | cons x r =>
    have := jrest_few (x :: r) m h
    have h1 : (jrest (x :: r)).length = (joinL (x :: r)).length + 1 := by simp [jrest, joinL]
    omega

set_option maxRecDepth 100000 in
set_option maxHeartbeats 2000000 in
theorem tells_walk (s : ByteArray) (v : Value) (zs : List Tz) (w : World) (hr : TokRow w v zs) : Calls Try.prog 4 #[.string s, v] w fun e w' => e = .returned (.bool true) ∧ Below w.heap.size w w' := by
  have HR := hide hr
  obtain ⟨av, cap, blk, off, rfl, ha, hc⟩ := hr
  have HC := hide hc
  have HA := hide ha
  clear hc ha
  obtain ⟨n, hln⟩ : ∃ n, zs.length = n := ⟨_, rfl⟩
  have HLN := hide hln
  rw [hln] at HC HA HR
  rw [hln]
  clear hln
  go_enter Try.func4, Try.ntmps4
  go_wp2_with fail
  refine (small_is w).mono ?_
  rintro e w1 ⟨rfl, hb1⟩
  have HB1 := hide hb1
  clear hb1
  by_cases hbig : 1024 < s.size
  · have e1 : ((1024 : Int) < (s.size : Int)) = True := eq_true (by omega)
    go_wp2_with fail
    go_ret
    exact ⟨rfl, HB1.out⟩
  have e1 : ((1024 : Int) < (s.size : Int)) = False := eq_false (by omega)
  by_cases hbig2 : 60 < n
  · have e1' : ((60 : Int) < (n : Int)) = True := eq_true (by omega)
    go_wp2_with fail
    go_ret
    exact ⟨rfl, HB1.out⟩
  have e1' : ((60 : Int) < (n : Int)) = False := eq_false (by omega)
  go_wp2_with fail
  go_loopw [6] (fun i wr => ∃ k : Nat, i = .int .i64 (k : Int) ∧ k ≤ n ∧ (∀ j, j < k → (zs.getD j z0).t.length ≤ 256) ∧ wr = w1) (fun i _ => n - (RowKit.intOf i).toNat)
  case atStart => exact ⟨0, rfl, Nat.zero_le _, fun j h => absurd h (Nat.not_lt_zero j), rfl⟩
  case round =>
    obtain ⟨k, rfl, hk, hall, rfl⟩ := hrel
    have HALL := hide hall
    clear hall
    by_cases hlt : k < n
    · have e2 : ((k : Int) < (n : Int)) = True := eq_true (by omega)
      obtain ⟨rfl, hblk⟩ := HA.out (by omega)
      have x1 : wr.cell? ⟨blk, off + k * 3 + 1, none⟩ = some (.string (bs (zs.getD k z0).t)) := (HB1.out.cell (p := ⟨blk, off + k * 3 + 1, none⟩) hblk).trans (HC.out k 1 hlt (by decide))
      have hsz := bs_size (zs.getD k z0).t
      by_cases h256 : 256 < (zs.getD k z0).t.length
      · have e3 : ((256 : Int) < ((zs.getD k z0).t.length : Int)) = True := eq_true (by omega)
        clear h256
        generalize (zs.getD k z0).t = t at *
        go_wp2
        go_ret
        exact ⟨rfl, HB1.out⟩
      · have e3 : ((256 : Int) < ((zs.getD k z0).t.length : Int)) = False := eq_false (by omega)
        have HN : Hid (∀ j, j < k + 1 → (zs.getD j z0).t.length ≤ 256) := fun j hj => by
          by_cases e : j = k
          · rw [e]; omega
          · exact HALL.out j (by omega)
        clear h256
        generalize (zs.getD k z0).t = t at *
        go_wp2
        go_roundw
        case rel => exact ⟨k + 1, by go_num, hlt, HN.out, by first | rfl | trivial⟩
        case measure => simp [RowKit.intOf]; omega
    · have hkn : k = n := by omega
      have e2 : ((k : Int) < (n : Int)) = False := eq_false (by omega)
      have hjl : (joinL zs).length ≤ 100000 := by
        have := joinL_few zs 256 (fun j hj => HALL.out j (by rw [hkn, ← HLN.out]; exact hj))
        rw [HLN.out] at this
        omega
      have HJL := hide hjl
      have H1 := number_s s (by omega) wr
      have H2 := numberR_s s (by omega) wr
      have H3 := name_s s (by omega) wr
      have H4 := nameR_s s (by omega) wr
      have H5 := sign_s s wr
      have H6 := signR_s s wr
      have f1 : ∀ (o : Option Nat), True := fun _ => trivial
      clear hjl hkn f1
      have f2 : (nameB s.data.toList == nameB s.data.toList) = true := by simp
      have f3 : (sign s.data.toList == sign s.data.toList) = true := by simp
      have f4 : ((bs (joinL zs)).toList == (bs (joinL zs)).toList) = true := by simp
      generalize nameB s.data.toList = nb at *
      generalize sign s.data.toList = sb at *
      obtain ⟨p, q, hpq⟩ : ∃ (p : Nat) (q : Bool), numV (num s.data.toList) = .tuple #[.int .i64 (p : Int), .bool q] := by
        cases num s.data.toList with
        | none => exact ⟨0, false, rfl⟩
        | some m => exact ⟨m, true, rfl⟩
      rw [hpq] at H1 H2
      clear hpq
      have f5 : ((p : Int) == (p : Int)) = true := by simp
      have f6 : (q == q) = true := by simp
      go_wp2_with fail
      refine H1.mono ?_
      rintro e w2 ⟨rfl, rfl⟩
      clear H1
      go_wp2_with fail
      refine H2.mono ?_
      rintro e w3 ⟨rfl, rfl⟩
      clear H2
      go_wp2_with fail
      refine H3.mono ?_
      rintro e w4 ⟨rfl, rfl⟩
      clear H3
      go_wp2_with fail
      refine H4.mono ?_
      rintro e w5 ⟨rfl, rfl⟩
      clear H4
      go_wp2_with fail
      refine H5.mono ?_
      rintro e w6 ⟨rfl, rfl⟩
      clear H5
      go_wp2_with fail
      refine H6.mono ?_
      rintro e w7 ⟨rfl, hb7⟩
      have HB7 := hide (bel_two HB1.out hb7)
      clear H6 hb7 HB1
      have H7 := join_is _ zs w7 (HR.out.below HB7.out) (by rw [HLN.out]; omega) (by have := HJL.out; omega)
      go_wp2_with fail
      refine H7.mono ?_
      rintro e w8 ⟨rfl, hb8⟩
      have HB8 := hide (bel_two HB7.out hb8)
      clear H7 hb8 HB7
      have H8 := joinR_is _ zs w8 (HR.out.below HB8.out) (by rw [HLN.out]; omega) (by have := HJL.out; omega)
      go_wp2_with fail
      refine H8.mono ?_
      rintro e w9 ⟨rfl, rfl⟩
      go_wp2
      go_ret
      exact ⟨rfl, HB8.out⟩

end Go.Proofs.Ytekangigfhhkoaa
