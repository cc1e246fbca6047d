/-
  The iterator over a text's tokens (layer 9).
-/
import Derived.Test.YtgndnodahlabiaaMgB
import Derived.Laws.DeepStrings4
namespace Go.Proofs.Ytgndnodahlabiaa
open Go.ChangeShapes Go.WideShapes Go.ChangeAt Go.RowKit Go.Shelf

attribute [local go_sem] Oper.semAt_some

/-- What comes out of the iterator: a token, and an error's number. -/
abbrev Ev := Tok × Nat
abbrev tokV (x : Tok) : Value := .agg #[.int .i64 (x.k : Int), .string (bs x.t), .int .i64 (x.a : Int)]
def evs (r : List Tok × Option Nat) : List Ev := r.1.map (fun x => (x, 0)) ++ (match r.2 with | none => [] | some q => [(⟨0, [], q⟩, 2)])
theorem evs_tok (x : Tok) (r : List Tok × Option Nat) : evs (x :: r.1, r.2) = (x, 0) :: evs r := rfl
theorem turns_new {A C : World} (h : Below A.heap.size A C) : Turns (fun _ => False) A C := ⟨h.os, h.tape, h.output, h.size, fun b hb _ => h.block b hb⟩
theorem tokens_in (n : Nat) (s : ByteArray) (w : World) :
    CallsIn Fence.wide n Try.prog 28 #[.string s] w fun e w' => e = .returned (.func (.func 35) #[] #[.pointer (some ⟨w.heap.size, 0, none⟩)]) ∧ w' = w.alloc (.cells #[.string s] 9) := by
  refine callsIn_of_wp Try.func28 rfl trivial ?_ rfl
  simp only [Try.ntmps28, List.size_toArray, List.length_cons, List.length_nil, Nat.reduceAdd, Nat.reduceSub, Array.replicate_succ, Array.replicate_zero, List.push_toArray, List.append_toArray, List.nil_append, List.cons_append]
  gi_wp2
  go_ret
  exact ⟨rfl, rfl⟩
theorem enter34 (args : Array Value) (w : World) : (callFunc 35 args).run Try.prog w = .ok (.enter 35 args) w := by simp [go_sem]
theorem run_cut (s : ByteArray) (a b : Nat) (i j : Int) (hi : i = (a : Int)) (hj : j = (b : Int)) (h1 : a ≤ b) (h2 : b ≤ s.size) (W : World) : (Instr.slice 9 (.string s) (some (.int .i64 i)) (some (.int .i64 j)) none).run Try.prog W = .ok (.string (s.extract a b)) W := by
  subst hi hj
  rw [run_slice_string_if W 9 s .i64 .i64 _ _ Try.underlying9, if_pos ⟨by omega, by omega⟩, if_pos ⟨by omega, by omega⟩]
  rfl
theorem lexS_eq (l : List UInt8) : lexS l = toks (betw l) (l.drop (betw l)) := by
  unfold lexS rest
  rw [List.drop_zero, Nat.zero_add]

set_option maxRecDepth 100000 in
set_option maxHeartbeats 2000000 in
theorem tokens_gives (s : ByteArray) (hl : s.size ≤ 100000000) (Bs : Nat) (W1 : World) (L : Nat) :
    Gives 35 #[.pointer (some ⟨Bs, 0, none⟩)] (fun x : Ev => #[tokV x.1, .int .i64 (x.2 : Int)]) (fun _ => False) (fun W => W.heap[Bs]? = some (.cells #[.string s] 9 (0, 0)))
      (fun ss x => ∃ u, ss ++ x :: u = evs (lexS s.data.toList)) (fun ss _ => ss = evs (lexS s.data.toList)) W1 L 0 := by
  intro J Jx htu hsz hrd hY h0
  have HY : Hid (∀ ss (x : Ev) W, J ss W → (∃ u, ss ++ x :: u = evs (lexS s.data.toList)) → YieldAt Fence.wide 0 Try.prog L #[tokV x.1, .int .i64 (x.2 : Int)] W fun e W' => (e = .returned (.bool true) ∧ J (ss ++ [x]) W') ∨ (e = .returned (.bool false) ∧ Jx W')) := fun ss x W hJ hx => (hY ss x W hJ hx (hsz ss W hJ)).mono fun e W' h => h.imp (fun h => ⟨h.1, h.2.1⟩) id
  have HRD := hide hrd
  have HTU : Hid (∀ ss W W', J ss W → Below W.heap.size W W' → J ss W') := fun ss W W' hj hb => htu ss W W' hj (turns_new hb)
  have c0 : W1.cell? ⟨Bs, 0, none⟩ = some (.string s) := cell_of (hrd _ _ h0) 0
  have HB := between_s s hl W1
  have hbl := betw_le _ s.data.toList (Nat.le_refl _)
  rw [s_size] at hbl
  have HL := hide (lexS_eq s.data.toList)
  have HD := hide (s_drop s)
  have HS : Hid (∀ k, k ≤ s.size → (s.extract k s.size).size = s.size - k) := fun k hk => by rw [← s_size, s_drop, List.length_drop, s_size]
  clear hY hrd htu hsz
  refine callsIn_of_wp Try.func35 rfl trivial ?_ rfl
  simp only [Try.ntmps35, List.size_toArray, List.length_cons, List.length_nil, Nat.reduceAdd, Nat.reduceSub, Array.replicate_succ, Array.replicate_zero, List.push_toArray, List.append_toArray, List.nil_append, List.cons_append]
  gi_wp2
  refine ⟨by trivial, by trivial, (callsIn_wide.2 HB).mono ?_⟩
  rintro e w' ⟨rfl, rfl⟩
  gi_wp2
  clear c0 HB
  gi_loopw [3] (fun a wr => ∃ (k : Nat) (ss : List Ev), a = .int .i64 (k : Int) ∧ k ≤ s.size ∧ ss ++ evs (toks k (s.data.toList.drop k)) = evs (lexS s.data.toList) ∧ J ss wr) (fun a _ => s.size - (RowKit.intOf a).toNat)
  case atStart => exact ⟨betw s.data.toList, [], rfl, hbl, by rw [HL.out]; rfl, h0⟩
  case round =>
    clear h0
    obtain ⟨k, ss, rfl, hk, hss, hJ⟩ := hrel
    have c0 : wr.cell? ⟨Bs, 0, none⟩ = some (.string s) := cell_of (HRD.out _ _ hJ) 0
    have HSS := hide hss
    clear hss
    by_cases hlt : k < s.size
    · have e1 : ((k : Int) < (s.size : Int)) = True := eq_true (by omega)
      have hex := HS.out k hk
      have HF := first_s (s.extract k s.size) (by rw [hex]; omega) (by rw [hex]; omega) wr
      rw [HD.out] at HF
      have hfl := first_le (s.data.toList.drop k)
      rw [List.length_drop, s_size] at hfl
      by_cases hz : (first (s.data.toList.drop k)).2 = 0
      · have HX : Hid (ss ++ ((⟨0, [], k⟩, 2) : Ev) :: [] = evs (lexS s.data.toList)) := by
          rw [Hid, ← HSS.out, toks_bad k (by rw [drop_at s k hlt]; simp) hz]; rfl
        rw [hz] at HF
        obtain ⟨fn, tmps, assign, body, hy, hR⟩ := HY.out _ _ _ hJ ⟨[], HX.out⟩
        have hy' : (Instr.yield L #[.agg #[.int .i64 0, .string ⟨#[]⟩, .int .i64 (k : Int)], .int .i64 2]).run Try.prog wr = .ok (Next.round L fn tmps assign body) wr := hy
        clear hz hfl hex hy
        generalize (first (s.data.toList.drop k)).1 = kd at *
        gi_wp2
        refine ⟨by trivial, by trivial, (callsIn_wide.2 HF).mono ?_⟩
        rintro e w2 ⟨rfl, rfl⟩
        gi_wp2
        refine ⟨rfl, hR.mono ?_⟩
        rintro e W3 (⟨rfl, hJ3⟩ | ⟨rfl, hJx3⟩)
        · gi_wp2
          refine bodyPost_ret (results_none rfl _ _ _) rfl ?_
          exact ⟨⟨_, rfl⟩, .inl ⟨_, HX.out, hJ3⟩⟩
        · gi_wp2
          refine bodyPost_ret (results_none rfl _ _ _) rfl ?_
          exact ⟨⟨_, rfl⟩, .inr hJx3⟩
      · have HX : Hid (∃ u, ss ++ ((⟨(first (s.data.toList.drop k)).1, (s.data.toList.drop k).take (first (s.data.toList.drop k)).2, k⟩, 0) : Ev) :: u = evs (lexS s.data.toList) ∧ u = evs (toks (k + (first (s.data.toList.drop k)).2 + betw (s.data.toList.drop (k + (first (s.data.toList.drop k)).2))) (s.data.toList.drop (k + ((first (s.data.toList.drop k)).2 + betw (s.data.toList.drop (k + (first (s.data.toList.drop k)).2))))))) := by
          refine ⟨_, ?_, rfl⟩
          rw [← HSS.out, toks_tok k hz, evs_tok, drop_sub, drop_sub]
        generalize (first (s.data.toList.drop k)).1 = kd at *
        generalize hn : (first (s.data.toList.drop k)).2 = n at *
        clear hn
        have hnp : 0 < n := by omega
        have hn0 : ((n : Int) = 0) = False := eq_false (by omega)
        have hn1 : ((n : Int) == 0) = false := beq_eq_false_iff_ne.2 (by omega)
        have hcut : s.extract k (k + n) = bs ((s.data.toList.drop k).take n) := bs_of (by rw [s_cut, Nat.add_sub_cancel_left])
        have hslice := run_cut s k (k + n) (k : Int) ((k : Int) + (n : Int)) rfl (by omega) (by omega) (by omega)
        have HC := clone_s (s.extract k (k + n)) (by rw [hcut, bs_size, List.length_take]; rw [List.length_drop, s_size]; omega) wr
        have hBT := between_s (s.extract (k + n) s.size) (by rw [HS.out _ (by omega)]; omega)
        rw [HD.out] at hBT
        have hbl2 := betw_le _ (s.data.toList.drop (k + n)) (Nat.le_refl _)
        rw [List.length_drop, s_size] at hbl2
        have HBT := hide hBT
        have HCUT := hide hcut
        clear hz hBT hcut hex
        generalize betw (s.data.toList.drop (k + n)) = b at *
        gi_wp2
        refine ⟨by trivial, by trivial, (callsIn_wide.2 HF).mono ?_⟩
        rintro e w2 ⟨rfl, rfl⟩
        clear HF
        gi_wp2
        refine ⟨by trivial, by trivial, (callsIn_wide.2 HC).mono ?_⟩
        rintro e w3 ⟨rfl, hb3⟩
        have hJ3 := HTU.out _ _ _ hJ hb3
        clear HC hb3 c0 hJ
        obtain ⟨u, hu, hue⟩ := HX.out
        obtain ⟨fn, tmps, assign, body, hy, hR⟩ := HY.out _ _ _ hJ3 ⟨u, hu⟩
        have hy' : (Instr.yield L #[.agg #[.int .i64 (kd : Int), .string (s.extract k (k + n)), .int .i64 (k : Int)], .int .i64 0]).run Try.prog w3 = .ok (Next.round L fn tmps assign body) w3 := by rw [HCUT.out]; exact hy
        have HU := hide hu
        have HUE := hide hue
        clear HX hu hue hy
        gi_wp2
        refine ⟨rfl, hR.mono ?_⟩
        rintro e W4 (⟨rfl, hJ4⟩ | ⟨rfl, hJx4⟩)
        · have c4 : W4.cell? ⟨Bs, 0, none⟩ = some (.string s) := cell_of (HRD.out _ _ hJ4) 0
          have HB4 := HBT.out W4
          clear hR hy' hJ3
          gi_wp2
          refine ⟨by trivial, by trivial, (callsIn_wide.2 HB4).mono ?_⟩
          rintro e w5 ⟨rfl, rfl⟩
          gi_wp2
          refine ⟨⟨k + n + b, ss ++ [(⟨kd, (s.data.toList.drop k).take n, k⟩, 0)], by go_num, by omega, ?_, hJ4⟩, ?_⟩
          · have := HU.out
            rw [HUE.out] at this
            rw [← this, List.append_assoc, show k + n + b = k + (n + b) by omega]; rfl
          · simp [RowKit.intOf]; omega
        · gi_wp2
          refine bodyPost_ret (results_none rfl _ _ _) rfl ?_
          exact ⟨⟨_, rfl⟩, .inr hJx4⟩
    · have hks : k = s.size := by omega
      have e1 : ((k : Int) < (s.size : Int)) = False := eq_false (by omega)
      gi_wp2
      go_end0
      refine ⟨⟨_, rfl⟩, .inl ⟨_, ?_, hJ⟩⟩
      have := HSS.out
      rw [List.drop_of_length_le (by rw [s_size]; omega), toks_nil] at this
      simpa [evs] using this

end Go.Proofs.Ytgndnodahlabiaa
