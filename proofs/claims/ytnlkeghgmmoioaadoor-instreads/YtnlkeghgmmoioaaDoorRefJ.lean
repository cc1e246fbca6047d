/-
  Decode of the document's own answers (layer 2): its contract.
-/
import Derived.Test.YtnlkeghgmmoioaaDoorRefJa
import Derived.Test.YtnlkeghgmmoioaaDoorRefJb
import Derived.Test.YtnlkeghgmmoioaaDoorRefJc
import Derived.Test.YtnlkeghgmmoioaaDoorRefJd
import Derived.Test.YtnlkeghgmmoioaaDoorRefJe
import Derived.Test.YtnlkeghgmmoioaaDoorRefJf
namespace Go.Proofs.YtnlkeghgmmoioaaDoor
open Go.ChangeShapes Go.WideShapes Go.ChangeAt Go.RowKit

theorem refdecode_short (a : Option Addr) (n cap : Nat) (h : n ≠ 8) (w : World) :
    Calls Tryd.prog 24 #[.slice a n cap] w fun e w' => e = .returned (.tuple #[.agg #[.int .i64 0, .int .i64 0, .int .i64 0, .int .i64 0, .int .i64 0], .int .i64 2]) ∧ Below w.heap.size w w' := by
  have h1 : ((n : Int) != 8) = true := by simp; omega
  go_enter Tryd.func24, Tryd.ntmps24
  go_wp2
  exact bodyPost_ret (v := .tuple #[.agg #[.int .i64 0, .int .i64 0, .int .i64 0, .int .i64 0, .int .i64 0], .int .i64 2]) (by simp [results, Tryd.results24, go_sem]) rfl ⟨rfl, (Below.refl _ _).alloc (Nat.le_refl _) _⟩

theorem wrap_is (z4 z5 z6 z7 : Int) (b4 : 0 ≤ z4 ∧ z4 < 256) (b5 : 0 ≤ z5 ∧ z5 < 256) (b6 : 0 ≤ z6 ∧ z6 < 256) (b7 : 0 ≤ z7 ∧ z7 < 256) :
    wrapM 4294967296 (z7 * 16777216 + (z6 * 65536 + (z5 * 256 + z4))) true = if 2147483647 < z4 + 256 * z5 + 65536 * z6 + 16777216 * z7 then z4 + 256 * z5 + 65536 * z6 + 16777216 * z7 - 4294967296 else z4 + 256 * z5 + 65536 * z6 + 16777216 * z7 := by
  have e : z7 * 16777216 + (z6 * 65536 + (z5 * 256 + z4)) = z4 + 256 * z5 + 65536 * z6 + 16777216 * z7 := by omega
  rw [e]
  generalize hL : z4 + 256 * z5 + 65536 * z6 + 16777216 * z7 = L
  have h0 : 0 ≤ L := by omega
  have h1 : L < 4294967296 := by omega
  unfold wrapM
  rw [show L % 4294967296 = L by omega]
  by_cases hi : 2147483647 < L
  · rw [if_pos hi, if_pos ⟨rfl, by omega⟩]
  · rw [if_neg hi, if_neg (by omega)]
theorem refdecode_any (blk off cap : Nat) (l : List UInt8) (w : World) (hlt : blk < w.heap.size) (hB : HasBytes w blk off l) :
    Calls Tryd.prog 24 #[.slice (some ⟨blk, off, none⟩) l.length cap] w fun e w' => e = .returned (decR l) ∧ Below w.heap.size w w' := by
  by_cases h8 : l.length = 8
  · match l, h8, hB with
    | [x0, x1, x2, x3, x4, x5, x6, x7], _, hB =>
      have hw := wrap_is x4.toNat x5.toNat x6.toNat x7.toNat (byte_bd x4) (byte_bd x5) (byte_bd x6) (byte_bd x7)
      have hdr : decR [x0, x1, x2, x3, x4, x5, x6, x7] = if x3.toNat = 0 then decV x0.toNat x1.toNat x2.toNat ((x7.toNat : Int) * 16777216 + ((x6.toNat : Int) * 65536 + ((x5.toNat : Int) * 256 + (x4.toNat : Int)))) else .tuple #[.agg #[.int .i64 0, .int .i64 0, .int .i64 0, .int .i64 0, .int .i64 0], .int .i64 2] := rfl
      rw [hdr]
      clear hdr
      by_cases hi : 2147483647 < (x4.toNat : Int) + 256 * x5.toNat + 65536 * x6.toNat + 16777216 * x7.toNat
      · rw [if_pos hi] at hw
        cases hr : rightB x0.toNat ((x1.toNat : Int) / 16) ((x1.toNat : Int) % 16) x2.toNat ((x4.toNat : Int) + 256 * x5.toNat + 65536 * x6.toNat + 16777216 * x7.toNat - 4294967296) with
        | false =>
          have hans : (if x3.toNat = 0 then decV x0.toNat x1.toNat x2.toNat ((x7.toNat : Int) * 16777216 + ((x6.toNat : Int) * 65536 + ((x5.toNat : Int) * 256 + (x4.toNat : Int)))) else .tuple #[.agg #[.int .i64 0, .int .i64 0, .int .i64 0, .int .i64 0, .int .i64 0], .int .i64 2]) = .tuple #[.agg #[.int .i64 0, .int .i64 0, .int .i64 0, .int .i64 0, .int .i64 0], .int .i64 2] := by
            split
            · exact decV_no (by rw [hw]; exact hr)
            · rfl
          rw [hans]
          exact refdecode_a blk off cap _ _ _ _ _ _ _ _ (byte_bd x0) (byte_bd x1) (byte_bd x2) (byte_bd x4) (byte_bd x5) (byte_bd x6) (byte_bd x7) w hlt (hB 0 (by simp)) (hB 1 (by simp)) (hB 2 (by simp)) (hB 3 (by simp)) (hB 4 (by simp)) (hB 5 (by simp)) (hB 6 (by simp)) (hB 7 (by simp)) hi hr
        | true =>
          by_cases h3 : x3.toNat = 0
          · rw [if_pos h3]
            have c3 := hB 3 (by simp)
            have e3 : (([x0, x1, x2, x3, x4, x5, x6, x7] : List UInt8)[3]'(by simp)).toNat = 0 := h3
            rw [e3] at c3
            exact refdecode_b blk off cap _ _ _ _ _ _ _ (byte_bd x0) (byte_bd x1) (byte_bd x2) (byte_bd x4) (byte_bd x5) (byte_bd x6) (byte_bd x7) w hlt (hB 0 (by simp)) (hB 1 (by simp)) (hB 2 (by simp)) c3 (hB 4 (by simp)) (hB 5 (by simp)) (hB 6 (by simp)) (hB 7 (by simp)) hi hr _ (show _ = _ by rw [decV_yes (by rw [hw]; exact hr), hw])
          · rw [if_neg h3]
            exact refdecode_c blk off cap _ _ _ _ _ _ _ _ (byte_bd x0) (byte_bd x1) (byte_bd x2) (byte_bd x4) (byte_bd x5) (byte_bd x6) (byte_bd x7) w hlt (hB 0 (by simp)) (hB 1 (by simp)) (hB 2 (by simp)) (hB 3 (by simp)) (hB 4 (by simp)) (hB 5 (by simp)) (hB 6 (by simp)) (hB 7 (by simp)) hi hr (bne_iff_ne.2 (fun h => h3 (by have h' : (x3.toNat : Int) = 0 := h; omega)))
      · rw [if_neg hi] at hw
        cases hr : rightB x0.toNat ((x1.toNat : Int) / 16) ((x1.toNat : Int) % 16) x2.toNat ((x4.toNat : Int) + 256 * x5.toNat + 65536 * x6.toNat + 16777216 * x7.toNat) with
        | false =>
          have hans : (if x3.toNat = 0 then decV x0.toNat x1.toNat x2.toNat ((x7.toNat : Int) * 16777216 + ((x6.toNat : Int) * 65536 + ((x5.toNat : Int) * 256 + (x4.toNat : Int)))) else .tuple #[.agg #[.int .i64 0, .int .i64 0, .int .i64 0, .int .i64 0, .int .i64 0], .int .i64 2]) = .tuple #[.agg #[.int .i64 0, .int .i64 0, .int .i64 0, .int .i64 0, .int .i64 0], .int .i64 2] := by
            split
            · exact decV_no (by rw [hw]; exact hr)
            · rfl
          rw [hans]
          exact refdecode_d blk off cap _ _ _ _ _ _ _ _ (byte_bd x0) (byte_bd x1) (byte_bd x2) (byte_bd x4) (byte_bd x5) (byte_bd x6) (byte_bd x7) w hlt (hB 0 (by simp)) (hB 1 (by simp)) (hB 2 (by simp)) (hB 3 (by simp)) (hB 4 (by simp)) (hB 5 (by simp)) (hB 6 (by simp)) (hB 7 (by simp)) hi hr
        | true =>
          by_cases h3 : x3.toNat = 0
          · rw [if_pos h3]
            have c3 := hB 3 (by simp)
            have e3 : (([x0, x1, x2, x3, x4, x5, x6, x7] : List UInt8)[3]'(by simp)).toNat = 0 := h3
            rw [e3] at c3
            exact refdecode_e blk off cap _ _ _ _ _ _ _ (byte_bd x0) (byte_bd x1) (byte_bd x2) (byte_bd x4) (byte_bd x5) (byte_bd x6) (byte_bd x7) w hlt (hB 0 (by simp)) (hB 1 (by simp)) (hB 2 (by simp)) c3 (hB 4 (by simp)) (hB 5 (by simp)) (hB 6 (by simp)) (hB 7 (by simp)) hi hr _ (show _ = _ by rw [decV_yes (by rw [hw]; exact hr), hw])
          · rw [if_neg h3]
            exact refdecode_f blk off cap _ _ _ _ _ _ _ _ (byte_bd x0) (byte_bd x1) (byte_bd x2) (byte_bd x4) (byte_bd x5) (byte_bd x6) (byte_bd x7) w hlt (hB 0 (by simp)) (hB 1 (by simp)) (hB 2 (by simp)) (hB 3 (by simp)) (hB 4 (by simp)) (hB 5 (by simp)) (hB 6 (by simp)) (hB 7 (by simp)) hi hr (bne_iff_ne.2 (fun h => h3 (by have h' : (x3.toNat : Int) = 0 := h; omega)))
  · have hd : decR l = .tuple #[.agg #[.int .i64 0, .int .i64 0, .int .i64 0, .int .i64 0, .int .i64 0], .int .i64 2] := by
      unfold decR; split
      · exact absurd rfl h8
      · rfl
    rw [hd]
    exact refdecode_short (some ⟨blk, off, none⟩) l.length cap h8 w

end Go.Proofs.YtnlkeghgmmoioaaDoor
