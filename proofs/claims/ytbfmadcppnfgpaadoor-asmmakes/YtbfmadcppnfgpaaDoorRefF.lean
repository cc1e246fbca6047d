/-
  Contracts of the document's own name and number (layer 2), by walks over the translation.
-/
import Derived.Test.YtbfmadcppnfgpaaDoorRefC
import Derived.Test.YtbfmadcppnfgpaaDoorText
namespace Go.Proofs.YtbfmadcppnfgpaaDoor
open Go.ChangeShapes Go.WideShapes Go.ChangeAt Go.RowKit


theorem refname_0 (w : World) :
    Calls Tryd.prog 48 #[.int .i64 0] w fun e w' => e = .returned (.string (bs [104, 97, 108, 116])) ∧ w' = w := by
  go_enter Tryd.func48, Tryd.ntmps48
  go_wp2
  go_ret
  exact ⟨rfl, rfl⟩
theorem refname_1 (w : World) :
    Calls Tryd.prog 48 #[.int .i64 1] w fun e w' => e = .returned (.string (bs [108, 105])) ∧ w' = w := by
  go_enter Tryd.func48, Tryd.ntmps48
  go_wp2
  go_ret
  exact ⟨rfl, rfl⟩
theorem refname_2 (w : World) :
    Calls Tryd.prog 48 #[.int .i64 2] w fun e w' => e = .returned (.string (bs [108, 105, 104])) ∧ w' = w := by
  go_enter Tryd.func48, Tryd.ntmps48
  go_wp2
  go_ret
  exact ⟨rfl, rfl⟩
theorem refname_3 (w : World) :
    Calls Tryd.prog 48 #[.int .i64 3] w fun e w' => e = .returned (.string (bs [109, 111, 118])) ∧ w' = w := by
  go_enter Tryd.func48, Tryd.ntmps48
  go_wp2
  go_ret
  exact ⟨rfl, rfl⟩
theorem refname_4 (w : World) :
    Calls Tryd.prog 48 #[.int .i64 4] w fun e w' => e = .returned (.string (bs [98, 105, 110])) ∧ w' = w := by
  go_enter Tryd.func48, Tryd.ntmps48
  go_wp2
  go_ret
  exact ⟨rfl, rfl⟩
theorem refname_5 (w : World) :
    Calls Tryd.prog 48 #[.int .i64 5] w fun e w' => e = .returned (.string (bs [108, 100])) ∧ w' = w := by
  go_enter Tryd.func48, Tryd.ntmps48
  go_wp2
  go_ret
  exact ⟨rfl, rfl⟩
theorem refname_6 (w : World) :
    Calls Tryd.prog 48 #[.int .i64 6] w fun e w' => e = .returned (.string (bs [115, 116])) ∧ w' = w := by
  go_enter Tryd.func48, Tryd.ntmps48
  go_wp2
  go_ret
  exact ⟨rfl, rfl⟩
theorem refname_7 (w : World) :
    Calls Tryd.prog 48 #[.int .i64 7] w fun e w' => e = .returned (.string (bs [106, 109, 112])) ∧ w' = w := by
  go_enter Tryd.func48, Tryd.ntmps48
  go_wp2
  go_ret
  exact ⟨rfl, rfl⟩
theorem refname_8 (w : World) :
    Calls Tryd.prog 48 #[.int .i64 8] w fun e w' => e = .returned (.string (bs [106, 122])) ∧ w' = w := by
  go_enter Tryd.func48, Tryd.ntmps48
  go_wp2
  go_ret
  exact ⟨rfl, rfl⟩
theorem refname_9 (w : World) :
    Calls Tryd.prog 48 #[.int .i64 9] w fun e w' => e = .returned (.string (bs [99, 97, 108, 108])) ∧ w' = w := by
  go_enter Tryd.func48, Tryd.ntmps48
  go_wp2
  go_ret
  exact ⟨rfl, rfl⟩
theorem refname_10 (w : World) :
    Calls Tryd.prog 48 #[.int .i64 10] w fun e w' => e = .returned (.string (bs [114, 101, 116])) ∧ w' = w := by
  go_enter Tryd.func48, Tryd.ntmps48
  go_wp2
  go_ret
  exact ⟨rfl, rfl⟩
theorem refname_11 (w : World) :
    Calls Tryd.prog 48 #[.int .i64 11] w fun e w' => e = .returned (.string (bs [105, 110])) ∧ w' = w := by
  go_enter Tryd.func48, Tryd.ntmps48
  go_wp2
  go_ret
  exact ⟨rfl, rfl⟩
theorem refname_12 (w : World) :
    Calls Tryd.prog 48 #[.int .i64 12] w fun e w' => e = .returned (.string (bs [111, 117, 116])) ∧ w' = w := by
  go_enter Tryd.func48, Tryd.ntmps48
  go_wp2
  go_ret
  exact ⟨rfl, rfl⟩
theorem refname_13 (w : World) :
    Calls Tryd.prog 48 #[.int .i64 13] w fun e w' => e = .returned (.string (bs [97, 108, 108, 111, 99])) ∧ w' = w := by
  go_enter Tryd.func48, Tryd.ntmps48
  go_wp2
  go_ret
  exact ⟨rfl, rfl⟩
theorem refname_14 (w : World) :
    Calls Tryd.prog 48 #[.int .i64 14] w fun e w' => e = .returned (.string (bs [97, 100, 100, 105])) ∧ w' = w := by
  go_enter Tryd.func48, Tryd.ntmps48
  go_wp2
  go_ret
  exact ⟨rfl, rfl⟩

theorem has_one (W : World) (k : Nat) (hk : k = W.heap.size) (z : Int) (hz : 0 ≤ z ∧ z < 256) : HasBytes (W.alloc (.cells #[.int .u8 z] 5)) k 0 [u8 z] := fun j hj => by
  subst hk
  have : j = 0 := by simp at hj; omega
  subst this
  rw [Nat.zero_add, World.cell?_alloc_new]
  simp [u8_nat z hz]
theorem dec_size (z : Int) (h : z ≤ 4294967296) : (bs (Lib.decDigits z.toNat)).size ≤ 20 := by
  rw [bs_size, Lib.decDigits_length]; exact Lib.nDigits_le20 _ (by omega)
theorem u8_dig (k : Nat) : u8 (48 + (k : Int)) = UInt8.ofNat (48 + k) := by
  unfold u8; congr 1
theorem dec_small (z : Int) (h0 : 0 ≤ z) (h : z < 10) : [u8 (48 + z % 10)] = Lib.decDigits z.toNat := by
  rw [Lib.decDigits_one (by omega), show (48 + z % 10) = 48 + ((z.toNat : Nat) : Int) by omega, u8_dig]
theorem dec_great (z : Int) (h : 10 ≤ z) : Lib.decDigits (z / 10).toNat ++ [u8 (48 + z % 10)] = Lib.decDigits z.toNat := by
  have e : Lib.decDigits z.toNat = Lib.decDigits (z.toNat / 10) ++ [UInt8.ofNat (48 + z.toNat % 10)] := by rw [Lib.decDigits, dif_neg (by omega)]
  rw [e, show (z / 10).toNat = z.toNat / 10 by omega, show (48 + z % 10) = 48 + ((z.toNat % 10 : Nat) : Int) by omega, u8_dig]
theorem refnumber_pos (m : Nat) : ∀ z : Int, 0 ≤ z → z < m → z ≤ 4294967296 → ∀ w : World,
    Calls Tryd.prog 49 #[.int .i64 z] w fun e w' => e = .returned (.string (bs (Lib.decDigits z.toNat))) ∧ Below w.heap.size w w' := by
  induction m with
  | zero => intro z h0 h1; omega
  | succ m ih =>
    intro z h0 h1 h2 w
    have hcv := (has_one w w.heap.size rfl (48 + z % 10) ⟨by omega, by omega⟩).conv (cap := 1)
    simp only [List.length_cons, List.length_nil, Nat.zero_add] at hcv
    have hn : decide (z < 0) = false := by simp; omega
    by_cases hs : z < 10
    · clear ih
      go_enter Tryd.func49, Tryd.ntmps49
      go_wp2_with fail
      go_ret
      exact ⟨by rw [← dec_small z h0 hs]; rfl, (Below.refl _ _).alloc (Nat.le_refl _) _⟩
    · have hs' : decide (z < 10) = false := by simpa using hs
      have IH : Hid (∀ W : World, Calls Tryd.prog 49 #[.int .i64 (z / 10)] W fun e w' => e = .returned (.string (bs (Lib.decDigits (z / 10).toNat))) ∧ Below W.heap.size W w') := ih (z / 10) (by omega) (by omega) (by omega)
      clear ih
      have sz := dec_size (z / 10) (by omega)
      have s1 : (bs [u8 (48 + z % 10)]).size = 1 := rfl
      have s2 : ¬ 9223372036854775807 < (bs (Lib.decDigits (z / 10).toNat)).size + 1 := by omega
      have HG : Hid (Lib.decDigits (z / 10).toNat ++ [u8 (48 + z % 10)] = Lib.decDigits z.toNat) := dec_great z (by omega)
      go_enter Tryd.func49, Tryd.ntmps49
      go_wp2_with fail
      refine (IH.out _).mono ?_; rintro e w2 ⟨rfl, hb2⟩
      obtain ⟨hB2, hz2⟩ := bel_box hb2
      clear hb2 hcv
      go_wp2_with fail
      go_ret
      exact ⟨ret_str (by rw [ba_app, bs_data, bs_data, HG.out]), hB2⟩
theorem refnumber_any (i : Int) (h0 : -2147483648 ≤ i) (h1 : i ≤ 2147483647) (w : World) :
    Calls Tryd.prog 49 #[.int .i64 i] w fun e w' => e = .returned (.string (bs (Lib.itoa i))) ∧ Below w.heap.size w w' := by
  by_cases hn : i < 0
  · have IH : Hid (∀ W : World, Calls Tryd.prog 49 #[.int .i64 (-i)] W fun e w' => e = .returned (.string (bs (Lib.decDigits (-i).toNat))) ∧ Below W.heap.size W w') := refnumber_pos ((-i).toNat + 1) (-i) (by omega) (by omega) (by omega)
    have sz := dec_size (-i) (by omega)
    have s2 : ¬ 9223372036854775807 < 1 + (bs (Lib.decDigits (-i).toNat)).size := by omega
    have HG : Hid (45 :: Lib.decDigits (-i).toNat = Lib.itoa i) := by
      show _ = _
      unfold Lib.itoa; rw [if_pos hn, show i.natAbs = (-i).toNat by omega]
    go_enter Tryd.func49, Tryd.ntmps49
    go_wp2_with fail
    refine (IH.out _).mono ?_; rintro e w2 ⟨rfl, hb2⟩
    go_wp2_with fail
    go_ret
    exact ⟨ret_str (by rw [ba_app, bs_data, ← HG.out]; rfl), hb2⟩
  · have := refnumber_pos (i.toNat + 1) i (by omega) (by omega) (by omega) w
    rwa [show Lib.decDigits i.toNat = Lib.itoa i by unfold Lib.itoa; rw [if_neg hn]] at this


end Go.Proofs.YtbfmadcppnfgpaaDoor
