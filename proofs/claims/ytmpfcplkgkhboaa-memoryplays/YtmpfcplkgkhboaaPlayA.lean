/-
  The law MemoryPlays (layer 3), by walks over the translation.
-/
import Derived.Test.YtmpfcplkgkhboaaPlay
namespace Go.Proofs.Ytmpfcplkgkhboaa
open Go.ChangeShapes Go.WideShapes Go.ChangeAt Go.RowKit Go.Maps

set_option maxRecDepth 100000 in
set_option maxHeartbeats 2000000 in
theorem plays_walk (av : Option Addr) (n cap : Nat) (l : List Trio) (a : Int) (w : World) (hn : l.length = n) (hwf : ∀ x ∈ l, (Lit.int .i64 x.c).wf = true) (hav : 0 < n → ∃ blk off, av = some ⟨blk, off, none⟩ ∧ blk < w.heap.size ∧ HasTrios w blk off l) :
    Calls Try.prog 3 #[iv a, .slice av n cap] w fun e w' => e = .returned (.bool true) ∧ Below w.heap.size w w' := by
  by_cases hmid : 4096 < a ∧ a ≤ 1048576
  · have e1 : (4096 < a) = True := by simp; omega
    have e2 : (a ≤ 1048576) = True := by simp; omega
    go_enter Try.func3, Try.ntmps3
    go_wp2_with fail
    refine (small_is _).mono ?_; rintro e w1 ⟨rfl, hb1⟩
    go_wp2_with fail
    go_ret
    exact ⟨rfl, hb1⟩
  by_cases hbig : 200 < n
  · have e3 : ((200 : Int) < n) = True := by simp; omega
    go_enter Try.func3, Try.ntmps3
    go_wp2_with fail
    refine (small_is _).mono ?_; rintro e w1 ⟨rfl, hb1⟩
    by_cases h1 : 4096 < a
    · have e2 : (a ≤ 1048576) = False := by simp; omega
      go_wp2_with fail
      go_ret
      exact ⟨rfl, hb1⟩
    · go_wp2_with fail
      go_ret
      exact ⟨rfl, hb1⟩
  have e3 : ((200 : Int) < n) = False := by simp; omega
  have hn2 : n ≤ 200 := by omega
  by_cases hbad : a < 1 ∨ 1048576 < a
  · go_enter Try.func3, Try.ntmps3
    go_wp2_with fail
    refine (small_is _).mono ?_; rintro e w1 ⟨rfl, hb1⟩
    by_cases h1 : 4096 < a
    · have e2 : (a ≤ 1048576) = False := by simp; omega
      go_wp2_with fail
      refine (new_no a hbad w1).mono ?_; rintro e w2 ⟨rfl, rfl⟩
      go_wp2_with fail
      refine (refNew_no a hbad _).mono ?_; rintro e w2 ⟨rfl, rfl⟩
      go_wp2_with fail
      go_ret
      exact ⟨rfl, hb1⟩
    · go_wp2_with fail
      refine (new_no a hbad w1).mono ?_; rintro e w2 ⟨rfl, rfl⟩
      go_wp2_with fail
      refine (refNew_no a hbad _).mono ?_; rintro e w2 ⟨rfl, rfl⟩
      go_wp2_with fail
      go_ret
      exact ⟨rfl, hb1⟩
  obtain ⟨N, rfl⟩ : ∃ N : Nat, a = N := ⟨a.toNat, by omega⟩
  have hN1 : 1 ≤ N := by omega
  have hN2 : N ≤ 4096 := by omega
  have e1 : ((4096 : Int) < N) = False := by simp; omega
  clear hbad hbig hmid
  obtain ⟨blk, off, hbo⟩ : ∃ blk off, 0 < n → av = some ⟨blk, off, none⟩ ∧ blk < w.heap.size ∧ HasTrios w blk off l := by
    by_cases h0 : 0 < n
    · obtain ⟨blk, off, h⟩ := hav h0
      exact ⟨blk, off, fun _ => h⟩
    · exact ⟨0, 0, fun h => absurd h h0⟩
  clear hav
  have HB : Hid ((0 < n → av = some ⟨blk, off, none⟩ ∧ blk < w.heap.size ∧ HasTrios w blk off l) ∧ ∀ x ∈ l, (Lit.int .i64 x.c).wf = true) := ⟨hbo, hwf⟩
  clear hbo hwf
  go_enter Try.func3, Try.ntmps3
  go_wp2_with fail
  refine (small_is _).mono ?_; rintro e w1 ⟨rfl, hb1⟩
  go_wp2_with fail
  refine (new_is N (by omega) (by omega) w1).mono ?_; rintro e w2 ⟨rfl, hb2, hs2, m2⟩
  go_wp2_with fail
  refine (refNew_is N (by omega) (by omega) w2).mono ?_; rintro e w3 ⟨rfl, hb3, hs3, r3⟩
  have hsz := hb1.size
  have hB3 : Below w.heap.size w w3 := (hb1.trans (hb2.mono hb1.size)).trans (hb3.mono (by omega))
  have m3 := m2.below hb3 (by omega) (by omega)
  have both : Both w3 (w1.heap.size + 1) w1.heap.size (w2.heap.size + 1) w2.heap.size 0 (fresh N) :=
    ⟨m3, ⟨fun _ => 0, by show RefM _ _ _ _ _ (List.replicate N (0 : Int)).length 1 N; rw [List.length_replicate]; exact r3, agree_fresh N⟩, by omega, by omega, by omega, by omega⟩
  have o1 : w.heap.size ≤ w2.heap.size := by omega
  generalize hB : w1.heap.size + 1 = B at *
  generalize hR : w1.heap.size = R at *
  generalize hQ : w2.heap.size + 1 = Q at *
  generalize hM : w2.heap.size = M at *
  clear m2 m3 r3
  go_wp2_with fail
  go_loopw [10] (fun i wr => ∃ k : Nat, ∃ s : St, k ≤ n ∧ i = iv k ∧ Both wr B R Q M (k * (N + 1)) s ∧ s.c.length = N ∧ Below w.heap.size w wr) (fun i _ => n - (intOf i).toNat)
  case atStart => exact ⟨0, fresh N, Nat.zero_le _, rfl, by simpa using both, by simp [fresh], hB3⟩
  case round =>
    obtain ⟨k, s, hk, rfl, hbt, hl, hb⟩ := hrel
    by_cases hlt : k < n
    · obtain ⟨rfl, hblk, hT⟩ := HB.out.1 (by omega)
      obtain ⟨c0, c1, c2⟩ := (hT.below hb hblk) k (by omega)
      have hw := HB.out.2 (l[k]'(by omega)) (List.getElem_mem _)
      generalize l[k]'(by omega) = t at c0 c1 c2 hw
      obtain ⟨x, y, z⟩ := t
      have e4 : ((k : Int) < n) = True := by simp; omega
      dsimp only at c0 c1 c2 hw
      have hbd : k * (N + 1) < 1000000000 := by
        have : k * (N + 1) ≤ 200 * 4097 := Nat.mul_le_mul (by omega) (by omega)
        omega
      go_wp2_with fail
      refine (play_is hbt hbd w.heap.size (by omega) hsz (by omega) o1 hb.size x y z hw).mono ?_
      rintro e w4 ⟨rfl, hb4, s4, hbt4, hl4⟩
      rw [hl] at hl4 hbt4
      have hB4 := hb.trans hb4
      obtain ⟨g4, r4, _⟩ := hbt4.ref
      have m4 := hbt4.mem
      have p0 := r4.c0
      have p1 := r4.c1
      have p2 := r4.c2
      have hst : k * (N + 1) + (N + 1) = (k + 1) * (N + 1) := by rw [Nat.add_mul]; omega
      rw [hst] at hbt4
      rw [hl4] at p0
      clear hst hbd c0 c1 c2
      go_wp2_with fail
      have mN : ∀ q, MemS (w4.drewN q) B R s4 := fun q => m4.on rfl rfl
      go_quiet (first | (go_at_call 11; exact Calls.quiet_of_same (heap_is (mN _))) | (go_at_call 12; exact Calls.quiet_of_same (floor_is (mN _))) | (go_at_call 13; exact Calls.quiet_of_same (cells_is (mN _))))
      have hbt5 : Hid (Both (w4.drewN nq) B R Q M ((k + 1) * (N + 1)) s4 ∧ Below w.heap.size w (w4.drewN nq)) :=
        ⟨⟨hbt4.mem.on rfl rfl, hbt4.ref.imp fun g h => ⟨h.1.on rfl rfl, h.2⟩, hbt4.n1, hbt4.n2, hbt4.n3, hbt4.n4⟩, ⟨hB4.os, hB4.tape, hB4.output, hB4.size, hB4.block⟩⟩
      go_wp2
      go_roundw
      case rel => exact ⟨k + 1, s4, by omega, by go_num, hbt5.out.1, hl4, hbt5.out.2⟩
      case measure => simp [intOf]; omega
    · have e4 : ((k : Int) < n) = False := by simp; omega
      go_wp2_with fail
      go_ret
      exact ⟨rfl, hb⟩
end Go.Proofs.Ytmpfcplkgkhboaa
