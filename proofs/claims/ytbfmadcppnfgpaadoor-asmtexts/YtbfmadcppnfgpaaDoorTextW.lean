/-
  The law AsmTexts (layer 5): its walk.
-/
import Derived.Test.YtbfmadcppnfgpaaDoorSmall
namespace Go.Proofs.YtbfmadcppnfgpaaDoor
open Go.ChangeShapes Go.WideShapes Go.ChangeAt Go.RowKit

theorem dig_no10 (n : Nat) : ∀ b ∈ Lib.decDigits n, b ≠ 10 := by
  induction n using Nat.strongRecOn with
  | ind n ih =>
    intro b hb
    rw [Lib.decDigits] at hb
    split at hb
    · rename_i h
      simp at hb; subst hb
      have : n = 0 ∨ n = 1 ∨ n = 2 ∨ n = 3 ∨ n = 4 ∨ n = 5 ∨ n = 6 ∨ n = 7 ∨ n = 8 ∨ n = 9 := by omega
      rcases this with rfl | rfl | rfl | rfl | rfl | rfl | rfl | rfl | rfl | rfl <;> decide
    · rename_i h
      rcases List.mem_append.1 hb with hb | hb
      · exact ih (n / 10) (by omega) b hb
      · simp at hb; subst hb
        have hd : n % 10 < 10 := Nat.mod_lt _ (by decide)
        generalize n % 10 = d at hd
        have : d = 0 ∨ d = 1 ∨ d = 2 ∨ d = 3 ∨ d = 4 ∨ d = 5 ∨ d = 6 ∨ d = 7 ∨ d = 8 ∨ d = 9 := by omega
        rcases this with rfl | rfl | rfl | rfl | rfl | rfl | rfl | rfl | rfl | rfl <;> decide
theorem itoa_no10 (n : Int) : ∀ b ∈ Lib.itoa n, b ≠ 10 := by
  intro b hb
  unfold Lib.itoa at hb
  split at hb
  · rcases List.mem_cons.1 hb with rfl | hb
    · decide
    · exact dig_no10 _ b hb
  · exact dig_no10 _ b hb
theorem names_no10 (k : Nat) : ∀ b ∈ namesL.getD k [], b ≠ 10 := by
  by_cases h : k < 15
  · have : k = 0 ∨ k = 1 ∨ k = 2 ∨ k = 3 ∨ k = 4 ∨ k = 5 ∨ k = 6 ∨ k = 7 ∨ k = 8 ∨ k = 9 ∨ k = 10 ∨ k = 11 ∨ k = 12 ∨ k = 13 ∨ k = 14 := by omega
    rcases this with rfl | rfl | rfl | rfl | rfl | rfl | rfl | rfl | rfl | rfl | rfl | rfl | rfl | rfl | rfl <;> decide
  · rw [List.getD_eq_getElem?_getD, List.getElem?_eq_none (by simp [namesL]; omega)]; simp
theorem rt_no10 (n : Int) (b : Bool) : ∀ c ∈ rt n b, c ≠ 10 := by
  intro c hc
  unfold rt at hc
  split at hc
  · rcases List.mem_cons.1 hc with rfl | hc
    · decide
    · rcases List.mem_cons.1 hc with rfl | hc
      · decide
      · exact dig_no10 _ c hc
  · simp at hc
theorem textL_no10 (o a b c i : Int) : ∀ x ∈ textL o a b c i, x ≠ 10 := by
  intro x hx
  unfold textL at hx
  split at hx
  · unfold txt at hx
    simp only [List.mem_append] at hx
    rcases hx with ((hx | hx) | ((hx | hx) | hx)) | hx
    · exact names_no10 _ x hx
    · split at hx
      · rcases List.mem_cons.1 hx with rfl | hx
        · decide
        · exact itoa_no10 _ x hx
      · simp at hx
    · exact rt_no10 _ _ x hx
    · exact rt_no10 _ _ x hx
    · exact rt_no10 _ _ x hx
    · split at hx
      · rcases List.mem_cons.1 hx with rfl | hx
        · decide
        · exact itoa_no10 _ x hx
      · simp at hx
  · simp at hx; subst hx; decide
theorem text_no10 (x : Ln) : ∀ b ∈ x.text, b ≠ 10 := by
  intro b hb
  unfold Ln.text at hb
  split at hb
  · simp only [List.mem_append] at hb
    rcases hb with (hb | hb) | hb
    · simp at hb; subst hb; decide
    · exact textL_no10 _ _ _ _ _ b hb
    · split at hb
      · simp at hb
      · simp only [List.mem_append] at hb
        rcases hb with hb | hb
        · simp at hb; rcases hb with rfl | rfl | rfl <;> decide
        · exact itoa_no10 _ b hb
  · simp only [List.mem_append] at hb
    rcases hb with (hb | hb) | hb
    · simp at hb; subst hb; decide
    · exact itoa_no10 _ b hb
    · simp at hb; subst hb; decide

theorem bs_at (l : List UInt8) (m : Nat) (h : m < l.length) : (bs l)[m]'(by rw [bs_size]; exact h) = l[m]'h := by
  show (l.toArray)[m]'(by simpa using h) = l[m]'h
  simp

theorem IsLines.one {W : World} {av : Option Addr} {blk off : Nat} {ls : List Ln} (h : IsLines W av blk off ls) (k : Nat) (hk : k < ls.length) : IsLines W (some ⟨blk, off + k * 7, none⟩) blk (off + k * 7) [ls[k]'hk] :=
  ⟨fun _ => rfl, fun _ => h.lt (by omega), fun j hj => by
    obtain rfl : j = 0 := by simpa using hj
    simpa using h.has k hk⟩

set_option maxRecDepth 100000 in
set_option maxHeartbeats 2000000 in
theorem textsLaw (av : Option Addr) (cap blk off : Nat) (ls : List Ln) (w : World) (hT : Tabs w) (hcap : ls.length ≤ cap) (hfL : ∀ x ∈ ls, Fits x.L) (hfT : ∀ x ∈ ls, Fits x.t) (hin : IsLines w av blk off ls) :
    Calls Tryd.prog 6 #[.slice av ls.length cap] w fun e w' => e = .returned (.bool true) ∧ Below w.heap.size w w' := by
  go_enter Tryd.func6, Tryd.ntmps6
  go_wp2_with fail
  refine (small_is w hT).mono ?_; rintro e w1 ⟨rfl, hb1⟩
  by_cases hbig : (100 : Int) < (ls.length : Int)
  · go_wp2_with fail
    go_ret
    exact ⟨rfl, hb1⟩
  have hl : ls.length ≤ 100 := by omega
  have hT1 := hT.on hb1
  have hin1 := hin.later hb1
  go_wp2_with fail
  generalize hn : ls.length = n at *
  have HN : Hid (ls.length = n) := hn
  clear hn
  go_loopw [4, 5] (fun s i wr => ∃ k : Nat, k ≤ n ∧ i = .int .i64 k ∧ s = .string (bs (textsL (ls.take k))) ∧ Below w.heap.size w wr) (fun _ i _ => n - (intOf i).toNat)
  case atStart => exact ⟨0, Nat.zero_le _, rfl, rfl, hb1⟩
  case round =>
    obtain ⟨k, hk, rfl, rfl, hbr⟩ := hrel
    by_cases hlt : k < n
    · have e1 : ((k : Int) < (n : Int)) = True := by simp; omega
      have hn := HN.out
      have hkl : k < ls.length := by omega
      obtain rfl := hin.at_ (by omega)
      have hinr := (hin.later hbr).one k hkl
      have hfl := hfL _ (List.getElem_mem hkl)
      have hft := hfT _ (List.getElem_mem hkl)
      have hno := text_no10 (ls[k]'hkl)
      have hsu := textsL_succ ls k hkl
      have tl := textsL_len (ls.take k) (fun x hx => hfL x (List.mem_of_mem_take hx)) (fun x hx => hfT x (List.mem_of_mem_take hx))
      rw [List.length_take] at tl
      generalize ls[k]'hkl = x at hinr hfl hft hno hsu
      have HS : Hid (textsL (ls.take (k + 1)) = textsL (ls.take k) ++ x.text ++ [10]) := hsu
      have xl := lnText_len x hfl hft
      clear hsu hn hkl
      go_wp2_with fail
      refine (texts_any (some ⟨blk, off + k * 7, none⟩) (cap - k) blk (off + k * 7) [x] wr (hT.on hbr) (by simp) (fun y hy => by simp at hy; subst hy; exact hfl) (fun y hy => by simp at hy; subst hy; exact hft) hinr).mono ?_
      rintro e w2 ⟨rfl, hb2⟩
      have hbr2 : Below w.heap.size w w2 := hbr.trans (hb2.mono hbr.size)
      rw [show textsL [x] = x.text ++ [10] by simp [textsL]]
      have hsz : (bs (x.text ++ [10])).size = x.text.length + 1 := by rw [bs_size]; simp
      clear hinr hb2
      generalize x.text = tx at *
      have HNO : Hid (∀ b ∈ tx, b ≠ 10) := hno
      clear hno
      go_wp2_with fail
      go_loopw [7, 8] (fun c j wq => ∃ m : Nat, m ≤ tx.length + 1 ∧ j = .int .i64 m ∧ c = .int .i64 (if m = tx.length + 1 then 1 else 0) ∧ wq = w2) (fun _ j _ => tx.length + 1 - (intOf j).toNat)
      case atStart => exact ⟨0, Nat.zero_le _, rfl, by rw [if_neg (by omega)], rfl⟩
      case round =>
        obtain ⟨m, hm, rfl, rfl, rfl⟩ := hrel
        by_cases hlt2 : m < tx.length + 1
        · have e2 : ((m : Int) < (tx.length : Int) + 1) = True := by simp; omega
          rw [if_neg (by omega)]
          by_cases hm2 : m = tx.length
          · subst hm2
            have hby : ((((bs (tx ++ [10]))[tx.length]'(by rw [hsz]; omega)).toNat : Int) == 10) = true := by rw [bs_at _ _ (by simp)]; simp
            go_wp2_with fail
            go_roundw
            case rel => exact ⟨tx.length + 1, by omega, by go_num, by rw [if_pos rfl], trivial⟩
            case measure => simp [intOf]
          · have hby : ((((bs (tx ++ [10]))[m]'(by rw [hsz]; omega)).toNat : Int) == 10) = false := by
              rw [bs_at _ _ (by simp; omega), List.getElem_append_left (by omega)]
              have := HNO.out _ (List.getElem_mem (show m < tx.length by omega))
              simp only [beq_eq_false_iff_ne, ne_eq]
              intro e
              exact this (UInt8.toNat_inj.1 (show _ = 10 by omega))
            go_wp2_with fail
            go_roundw
            case rel => exact ⟨m + 1, by omega, by go_num, by rw [if_neg (by omega)], trivial⟩
            case measure => simp [intOf]; omega
        · obtain rfl : m = tx.length + 1 := by omega
          rw [if_pos rfl]
          have hlast : ((((bs (tx ++ [10]))[tx.length]'(by rw [hsz]; omega)).toNat : Int) != 10) = false := by rw [bs_at _ _ (by simp)]; simp
          have e3 : ((tx.length : Int) + 1 < 1) = False := by simp; omega
          have hs2 : ¬ 9223372036854775807 < (bs (textsL (ls.take k))).size + (tx.length + 1) := by rw [bs_size]; omega
          go_wp2_with fail
          go_roundw
          case rel => exact ⟨k + 1, by omega, by go_num, by rw [HS.out]; exact congrArg Value.string (bs_of (by rw [ba_app, bs_data, bs_data, List.append_assoc])), hbr2⟩
          case measure => simp [intOf]; omega
    · have e1 : ((k : Int) < (n : Int)) = False := by simp; omega
      have htx : Calls Tryd.prog 14 #[.slice av n cap] wr fun e w' => e = .returned (.string (bs (textsL ls))) ∧ Below wr.heap.size wr w' := by
        rw [← HN.out]; exact texts_any av cap blk off ls wr (hT.on hbr) (by rw [HN.out]; omega) hfL hfT (hin.later hbr)
      rw [List.take_of_length_le (by rw [HN.out]; omega)]
      go_wp2_with fail
      refine htx.mono ?_
      rintro e w2 ⟨rfl, hb2⟩
      go_wp2
      go_ret
      exact ⟨ret_bool (by simp), hbr.trans (hb2.mono hbr.size)⟩

end Go.Proofs.YtbfmadcppnfgpaaDoor
