/-
  The law MemoryAllocs (layer 3), by walks over the translation.
-/
import Derived.Test.YtmpfcplkgkhboaaOpen
namespace Go.Proofs.Ytmpfcplkgkhboaa
open Go.ChangeShapes Go.WideShapes Go.ChangeAt Go.RowKit

theorem HasInts.below {w w' : World} {N blk off : Nat} {l : List Int} (h : HasInts w blk off l) (hb : Below N w w') (hlt : blk < N) : HasInts w' blk off l := fun j hj =>
  (hb.cell (p := ⟨blk, _, none⟩) hlt).trans (h j hj)

theorem is_of (s : St) (a : Int) (h : 1 ≤ a ∧ a < s.h ∨ (s.f : Int) ≤ a ∧ a < s.c.length) : s.is a = true := by
  unfold St.is isCell; exact decide_eq_true h
theorem not_is (s : St) (a : Int) (h : ¬ (1 ≤ a ∧ a < s.h ∨ (s.f : Int) ≤ a ∧ a < s.c.length)) : s.is a = false := by
  unfold St.is isCell; exact decide_eq_false h

set_option maxRecDepth 100000 in
set_option maxHeartbeats 2000000 in
theorem allocs_walk (av : Option Addr) (n cap : Nat) (l : List Int) (a : Int) (w : World) (hn : l.length = n) (hav : 0 < n → ∃ blk off, av = some ⟨blk, off, none⟩ ∧ blk < w.heap.size ∧ HasInts w blk off l) :
    Calls Try.prog 5 #[iv a, .slice av n cap] w fun e w' => e = .returned (.bool true) ∧ Below w.heap.size w w' := by
  by_cases hbig : a < 1 ∨ 4096 < a ∨ 100 < n
  · go_enter Try.func5, Try.ntmps5
    go_wp2_with fail
    refine (small_is _).mono ?_; rintro e w1 ⟨rfl, hb1⟩
    by_cases b1 : a < 1
    · go_wp2_with fail
      go_ret
      exact ⟨rfl, hb1⟩
    by_cases b2 : 4096 < a
    · go_wp2_with fail
      go_ret
      exact ⟨rfl, hb1⟩
    have b3 : ((100 : Int) < n) = True := by simp; omega
    go_wp2_with fail
    go_ret
    exact ⟨rfl, hb1⟩
  obtain ⟨N, rfl⟩ : ∃ N : Nat, a = N := ⟨a.toNat, by omega⟩
  have e1 : ((N : Int) < 1) = False := by simp; omega
  have e2 : ((4096 : Int) < N) = False := by simp; omega
  have e3 : ((100 : Int) < n) = False := by simp; omega
  have hN1 : 1 ≤ N := by omega
  have hN2 : N ≤ 4096 := by omega
  have hn2 : n ≤ 100 := by omega
  clear hbig
  obtain ⟨blk, off, hbo⟩ : ∃ blk off, 0 < n → av = some ⟨blk, off, none⟩ ∧ blk < w.heap.size ∧ HasInts w blk off l := by
    by_cases h0 : 0 < n
    · obtain ⟨blk, off, h⟩ := hav h0
      exact ⟨blk, off, fun _ => h⟩
    · exact ⟨0, 0, fun h => absurd h h0⟩
  clear hav
  have HB : Hid (0 < n → av = some ⟨blk, off, none⟩ ∧ blk < w.heap.size ∧ HasInts w blk off l) := hbo
  clear hbo
  go_enter Try.func5, Try.ntmps5
  go_wp2_with fail
  refine (small_is _).mono ?_; rintro e w1 ⟨rfl, hb1⟩
  go_wp2_with fail
  refine (new_is N (by omega) (by omega) w1).mono ?_; rintro e w2 ⟨rfl, hb2, hs2, m2⟩
  have hB2 : Below w.heap.size w w2 := hb1.trans (hb2.mono hb1.size)
  have hsz := hb1.size
  generalize hB : w1.heap.size + 1 = B at *
  generalize hR : w1.heap.size = R at *
  go_wp2_with fail
  go_loopw [8, 9] (fun x i wr => ∃ k : Nat, ∃ s : St, k ≤ n ∧ i = iv k ∧ x = iv s.h ∧ MemS wr B R s ∧ s.f = N ∧ s.c.length = N ∧ Below w.heap.size w wr) (fun _ i _ => n - (intOf i).toNat)
  case atStart => exact ⟨0, fresh N, Nat.zero_le _, rfl, rfl, m2, rfl, by simp [fresh], hB2⟩
  case round =>
    obtain ⟨k, s, hk, rfl, rfl, m, hf, hl, hb⟩ := hrel
    have d1 := m.one
    have d2 := m.hf
    rw [hf] at d2
    by_cases hlt : k < n
    · obtain ⟨rfl, hblk, hT⟩ := HB.out (by omega)
      have c0 := (hT.below hb hblk) k (by omega)
      generalize hzk : l[k]'(by omega) = z at c0
      have e4 : ((k : Int) < n) = True := by simp; omega
      go_wp2_with fail
      refine (alloc_any m z).mono ?_; rintro e w3 ⟨rfl, t3, m3⟩
      have hb3 := hb.trans (t3.below (N := w.heap.size) (by omega) hsz)
      have c1 := (hT.below hb3 hblk) k (by omega)
      rw [hzk] at c1
      clear c0
      have HT : Hid (HasInts w blk off l ∧ l[k]'(by omega) = z) := ⟨hT, hzk⟩
      clear hT hzk
      by_cases hz : z < 0
      · have q1 : s.allocBad z = true := by simp [St.allocBad, hz]
        simp only [St.allocErr, St.allocAt, St.alloc, q1, if_pos hz] at m3 ⊢
        have q2 : (z < 0) = True := by simp [hz]
        clear hz
        go_wp2_with fail
        go_roundw
        case rel => exact ⟨k + 1, s, by omega, by go_num, rfl, m3, hf, hl, hb3⟩
        case measure => simp [intOf]; omega
      by_cases hz2 : (s.f : Int) - s.h < z
      · have q1 : s.allocBad z = true := by simp [St.allocBad, hz2]
        simp only [St.allocErr, St.allocAt, St.alloc, q1, if_neg hz, if_pos hz2] at m3 ⊢
        rw [hf] at hz2
        have q2 : (z < 0) = False := by simp; omega
        have q3 : (z ≤ (N : Int) - s.h) = False := by simp; omega
        clear hz
        go_wp2_with fail
        go_roundw
        case rel => exact ⟨k + 1, s, by omega, by go_num, rfl, m3, hf, hl, hb3⟩
        case measure => simp [intOf]; omega
      have q1 : s.allocBad z = false := by simp [St.allocBad]; omega
      rw [hf] at hz2
      obtain ⟨q, rfl⟩ : ∃ q : Nat, z = q := ⟨z.toNat, by omega⟩
      simp only [St.allocErr, St.allocAt, q1, if_neg hz, hf, if_neg hz2]
      obtain ⟨s1, m1, h1h, h1f, h1l, h1z⟩ : ∃ s1, MemS w3 B R s1 ∧ s1.h = s.h + q ∧ s1.f = N ∧ s1.c.length = N ∧ ∀ i, s.h ≤ i → i < s.h + q → s1.c.getD i 0 = 0 := by
        refine ⟨_, m3, ?_, ?_, (len_alloc m q).trans hl, ?_⟩
        · simp [St.alloc, q1]
        · simp [St.alloc, q1, hf]
        · intro i i1 i2
          simp only [St.alloc, q1, Int.toNat_natCast]
          rw [if_neg (by simp)]
          rw [wipe_get _ _ _ (by omega), if_pos ⟨i1, i2⟩]
      clear m3 q1 hz
      have q2 : ((q : Int) ≤ (N : Int) - s.h) = True := by simp; omega
      have q3 : ((N : Int) - s.h < q) = False := by simp; omega
      have hq : s.h + q ≤ N := by omega
      clear hz2
      generalize hsh : s.h = hh at *
      go_wp2_with fail
      clear q2 q3 c1
      go_loopw [12] (fun x wr => ∃ j : Nat, ∃ s' : St, hh ≤ j ∧ j ≤ hh + q ∧ x = iv j ∧ MemS wr B R s' ∧ s'.h = hh + q ∧ s'.f = N ∧ s'.c.length = N ∧ (∀ i, j ≤ i → i < hh + q → s'.c.getD i 0 = 0) ∧ Below w.heap.size w wr) (fun x _ => hh + q - (intOf x).toNat)
      case atStart => exact ⟨hh, s1, Nat.le_refl _, by omega, rfl, m1, h1h, h1f, h1l, h1z, hb3⟩
      case round =>
        obtain ⟨j, s', j1, j2, rfl, mj, jh, jf, jl, jz, hbj⟩ := hrel
        have c1 := (HT.out.1.below hbj hblk) k (by omega)
        rw [HT.out.2] at c1
        by_cases hj : j < hh + q
        · have q5 : ((j : Int) < (hh : Int) + q) = True := by simp; omega
          have q6 : s'.is j = true := is_of s' _ (by omega)
          have q7 : s'.load j = 0 := by simp only [St.load, q6, if_true, Int.toNat_natCast]; exact jz j (Nat.le_refl _) hj
          have q8 : s'.err j = 0 := by simp [St.err, q6]
          go_wp2_with fail
          refine (load_any mj j).mono ?_; rintro e w5 ⟨rfl, rfl⟩
          rw [q7, q8]
          clear q7
          go_wp2_with fail
          refine (store_any mj j 9).mono ?_; rintro e w6 ⟨rfl, t6, m6⟩
          rw [q8]
          clear q8
          have hb6 := hbj.trans (t6.below (N := w.heap.size) (by omega) hsz)
          have z6 : ∀ i, j + 1 ≤ i → i < hh + q → (s'.store j 9).c.getD i 0 = 0 := by
            intro i i1 i2
            simp only [St.store, q6, if_true, Int.toNat_natCast]
            have := jz i (by omega) i2
            simpa [show j ≠ i by omega] using this
          have l6 := (len_store s' j 9).trans jl
          have h6 : (s'.store j 9).h = hh + q := by simp only [St.store, q6, if_true]; exact jh
          have f6 : (s'.store j 9).f = N := by simp only [St.store, q6, if_true]; exact jf
          generalize s'.store j 9 = s6 at m6 z6 l6 h6 f6
          clear q6 jz jh jf jl
          go_wp2_with fail
          go_roundw
          case rel => exact ⟨j + 1, s6, by omega, by omega, by go_num, m6, h6, f6, l6, z6, hb6⟩
          case measure => simp [intOf]; omega
        · have q5 : ((j : Int) < (hh : Int) + q) = False := by simp; omega
          go_wp2_with fail
          go_roundw
          case rel => exact ⟨k + 1, s', by omega, by go_num, by rw [jh]; go_num, mj, jf, jl, hbj⟩
          case measure => simp [intOf]; omega
    · have e4 : ((k : Int) < n) = False := by simp; omega
      go_wp2_with fail
      refine (load_any m s.h).mono ?_; rintro e w3 ⟨rfl, rfl⟩
      have q1 : s.is s.h = false := not_is s _ (by omega)
      simp only [St.load, St.err, q1]
      go_wp2_with fail
      refine (heap_is m).mono ?_; rintro e w3 ⟨rfl, rfl⟩
      go_wp2_with fail
      go_ret
      exact ⟨rfl, hb⟩
end Go.Proofs.Ytmpfcplkgkhboaa
