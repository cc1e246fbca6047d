/-
  The law MemoryFloors (layer 3), by walks over the translation.
-/
import Derived.Test.YtmpfcplkgkhboaaAllocA
namespace Go.Proofs.Ytmpfcplkgkhboaa
open Go.ChangeShapes Go.WideShapes Go.ChangeAt Go.RowKit

theorem fresh_floor : (fresh 50).alloc 9 = ⟨List.replicate 50 0, 10, 50⟩ := rfl

set_option maxRecDepth 100000 in
set_option maxHeartbeats 2000000 in
theorem floors_walk (av : Option Addr) (n cap : Nat) (l : List Int) (v : Int) (w : World) (hn : l.length = n) (hav : 0 < n → ∃ blk off, av = some ⟨blk, off, none⟩ ∧ blk < w.heap.size ∧ HasInts w blk off l) :
    Calls Try.prog 6 #[.slice av n cap, iv v] w fun e w' => e = .returned (.bool true) ∧ Below w.heap.size w w' := by
  by_cases hbig : 100 < n
  · have e1 : ((100 : Int) < n) = True := by simp; omega
    go_enter Try.func6, Try.ntmps6
    go_wp2_with fail
    refine (small_is _).mono ?_; rintro e w1 ⟨rfl, hb1⟩
    go_wp2_with fail
    refine (new_is 50 (by decide) (by decide) w1).mono ?_; rintro e w2 ⟨rfl, hb2, _, _⟩
    go_wp2_with fail
    go_ret
    exact ⟨rfl, hb1.trans (hb2.mono hb1.size)⟩
  have e1 : ((100 : Int) < n) = False := by simp; omega
  obtain ⟨blk, off, hbo⟩ : ∃ blk off, 0 < n → av = some ⟨blk, off, none⟩ ∧ blk < w.heap.size ∧ HasInts w blk off l := by
    by_cases h0 : 0 < n
    · obtain ⟨blk, off, h⟩ := hav h0
      exact ⟨blk, off, fun _ => h⟩
    · exact ⟨0, 0, fun h => absurd h h0⟩
  clear hav
  have HB : Hid (0 < n → av = some ⟨blk, off, none⟩ ∧ blk < w.heap.size ∧ HasInts w blk off l) := hbo
  clear hbo
  go_enter Try.func6, Try.ntmps6
  go_wp2_with fail
  refine (small_is _).mono ?_; rintro e w1 ⟨rfl, hb1⟩
  go_wp2_with fail
  refine (new_is 50 (by decide) (by decide) w1).mono ?_; rintro e w2 ⟨rfl, hb2, hs2, m2⟩
  have hB2 : Below w.heap.size w w2 := hb1.trans (hb2.mono hb1.size)
  have hsz := hb1.size
  generalize hB : w1.heap.size + 1 = B at *
  generalize hR : w1.heap.size = R at *
  go_wp2_with fail
  refine (alloc_any (s := fresh 50) m2 9).mono ?_; rintro e wa ⟨rfl, ta, ma⟩
  rw [fresh_floor] at ma
  have hBa := hB2.trans (ta.below (N := w.heap.size) (by omega) hsz)
  go_wp2_with fail
  go_loopw [8] (fun i wr => ∃ k : Nat, ∃ s : St, k ≤ n ∧ i = iv k ∧ MemS wr B R s ∧ s.h = 10 ∧ s.c.length = 50 ∧ (∀ i, s.f ≤ i → i < 50 → s.c.getD i 0 = v) ∧ Below w.heap.size w wr) (fun i _ => n - (intOf i).toNat)
  case atStart => exact ⟨0, ⟨List.replicate 50 0, 10, 50⟩, Nat.zero_le _, rfl, ma, rfl, by simp, fun i i1 i2 => by have : 50 ≤ i := i1; omega, hBa⟩
  case round =>
    obtain ⟨k, s, hk, rfl, m, hh, hl, hv, hb⟩ := hrel
    have d2 := m.hf
    have d3 := m.fn
    rw [hh] at d2
    rw [hl] at d3
    by_cases hlt : k < n
    · obtain ⟨rfl, hblk, hT⟩ := HB.out (by omega)
      have c0 := (hT.below hb hblk) k (by omega)
      generalize hzk : l[k]'(by omega) = z at c0
      have e4 : ((k : Int) < n) = True := by simp; omega
      generalize hwas : s.f = was at *
      go_wp2_with fail
      refine (floor_is m).mono ?_; rintro e w3 ⟨rfl, rfl⟩
      rw [hwas]
      go_wp2_with fail
      refine (setFloor_any m z).mono ?_; rintro e w3 ⟨rfl, t3, m1⟩
      have hb3 := hb.trans (t3.below (N := w.heap.size) (by omega) hsz)
      have c1 := (hT.below hb3 hblk) k (by omega)
      rw [hzk] at c1
      clear c0 hT hzk
      have h1l := (len_setFloor m z).trans hl
      by_cases hz : z < 10 ∨ 50 < z
      · have q1 : s.floorBad z = true := by simp only [St.floorBad, hh, hl]; exact decide_eq_true (by omega)
        have q2 : s.setFloor z = s := by simp [St.setFloor, q1]
        rw [q2] at m1 h1l
        rw [show s.floorErr z = 8 by simp [St.floorErr, q1]]
        clear q1 q2
        obtain ⟨now, s1, m1, n50, n10, h1h, h1f, h1l, h1z, hnw⟩ : ∃ now s1, MemS w3 B R s1 ∧ now ≤ 50 ∧ 10 ≤ now ∧ s1.h = 10 ∧ s1.f = now ∧ s1.c.length = 50 ∧ (∀ i, now ≤ i → i < 50 → s1.c.getD i 0 = if i < was then 0 else v) ∧ now = was :=
          ⟨was, s, m1, by omega, by omega, hh, hwas, hl, fun i i1 i2 => by rw [if_neg (by omega)]; exact hv i i1 i2, rfl⟩
        have Z : Hid ((z < 10 ∨ 50 < z)) := hz
        clear hz hh hl hv hwas
        by_cases hz1 : z < 10
        · have r1 : ((10 : Int) ≤ z) = False := by simp; omega
          have F1 := m1
          go_wp2_with fail
          refine (floor_is m1).mono ?_; rintro e w4 ⟨rfl, rfl⟩
          rw [h1f, hnw]
          go_wp2_with fail
          refine (floor_is m1).mono ?_; rintro e w4 ⟨rfl, rfl⟩
          rw [h1f]
          subst hnw
          clear c1
          go_wp2_with fail
          go_loopw [12] (fun x wr => ∃ j : Nat, ∃ s' : St, now ≤ j ∧ j ≤ 50 ∧ x = iv j ∧ MemS wr B R s' ∧ s'.h = 10 ∧ s'.f = now ∧ s'.c.length = 50 ∧ (∀ i, now ≤ i → i < j → s'.c.getD i 0 = v) ∧ (∀ i, j ≤ i → i < 50 → s'.c.getD i 0 = if i < now then 0 else v) ∧ Below w.heap.size w wr) (fun x _ => 50 - (intOf x).toNat)
          case atStart => exact ⟨now, s1, Nat.le_refl _, n50, rfl, m1, h1h, h1f, h1l, fun i i1 i2 => by omega, h1z, hb3⟩
          case round =>
            obtain ⟨j, s', j1, j2, rfl, mj, jh, jf, jl, jv, jz, hbj⟩ := hrel
            by_cases hj : j < 50
            · have q5 : ((j : Int) < 50) = True := by simp; omega
              have q6 : s'.is j = true := is_of s' _ (by omega)
              have q7 : s'.load j = if j < now then 0 else v := by simp only [St.load, q6, if_true, Int.toNat_natCast]; exact jz j (Nat.le_refl _) hj
              have q8 : s'.err j = 0 := by simp [St.err, q6]
              have v6 : ∀ i, now ≤ i → i < j + 1 → (s'.store j v).c.getD i 0 = v := by
                intro i i1 i2
                simp only [St.store, q6, if_true, Int.toNat_natCast]
                by_cases hij : j = i
                · subst hij; simp [show j < s'.c.length by omega]
                · have := jv i i1 (by omega)
                  simpa [hij] using this
              have z6 : ∀ i, j + 1 ≤ i → i < 50 → (s'.store j v).c.getD i 0 = if i < now then 0 else v := by
                intro i i1 i2
                simp only [St.store, q6, if_true, Int.toNat_natCast]
                have := jz i (by omega) i2
                simpa [show j ≠ i by omega] using this
              have l6 := (len_store s' j v).trans jl
              have h6 : (s'.store j v).h = 10 := by simp only [St.store, q6, if_true]; exact jh
              have f6 : (s'.store j v).f = now := by simp only [St.store, q6, if_true]; exact jf
              have A6 : Hid ((∀ i, now ≤ i → i < j + 1 → (s'.store j v).c.getD i 0 = v) ∧ (∀ i, j + 1 ≤ i → i < 50 → (s'.store j v).c.getD i 0 = if i < now then 0 else v) ∧ (s'.store j v).c.length = 50 ∧ (s'.store j v).h = 10 ∧ (s'.store j v).f = now) := ⟨v6, z6, l6, h6, f6⟩
              clear v6 z6 l6 h6 f6 q6 jz jv jh jf jl
              go_wp2_with fail
              refine (load_any mj j).mono ?_; rintro e w5 ⟨rfl, rfl⟩
              rw [q7, q8]
              clear q7
              by_cases hjw : j < now
              · have r1 : ((j : Int) < now) = True := by simp; omega
                have r2 : ((now : Int) ≤ j) = False := by simp; omega
                rw [if_pos hjw]
                go_wp2_with fail
                refine (store_any mj j v).mono ?_; rintro e w6 ⟨rfl, t6, m6⟩
                rw [q8]
                clear q8
                have hb6 := hbj.trans (t6.below (N := w.heap.size) (by omega) hsz)
                generalize s'.store j v = s6 at m6 A6
                go_wp2_with fail
                go_roundw
                case rel => exact ⟨j + 1, s6, by omega, by omega, by go_num, m6, A6.out.2.2.2.1, A6.out.2.2.2.2, A6.out.2.2.1, A6.out.1, A6.out.2.1, hb6⟩
                case measure => simp [intOf]; omega
              · have r1 : ((j : Int) < now) = False := by simp; omega
                have r2 : ((now : Int) ≤ j) = True := by simp; omega
                rw [if_neg hjw]
                go_wp2_with fail
                refine (store_any mj j v).mono ?_; rintro e w6 ⟨rfl, t6, m6⟩
                rw [q8]
                clear q8
                have hb6 := hbj.trans (t6.below (N := w.heap.size) (by omega) hsz)
                generalize s'.store j v = s6 at m6 A6
                go_wp2_with fail
                go_roundw
                case rel => exact ⟨j + 1, s6, by omega, by omega, by go_num, m6, A6.out.2.2.2.1, A6.out.2.2.2.2, A6.out.2.2.1, A6.out.1, A6.out.2.1, hb6⟩
                case measure => simp [intOf]; omega
            · have q5 : ((j : Int) < 50) = False := by simp; omega
              have A6 : Hid ((∀ i, now ≤ i → i < j → s'.c.getD i 0 = v) ∧ s'.c.length = 50 ∧ s'.h = 10 ∧ s'.f = now) := ⟨jv, jl, jh, jf⟩
              have J : j = 50 := by omega
              by_cases hnow : 10 < now
              · have r1 : ((10 : Int) < now) = True := by simp; omega
                have q9 : s'.err ((now : Int) - 1) = 7 := by simp [St.err, not_is s' ((now : Int) - 1) (by omega)]
                clear jv jz jl jh jf
                go_wp2_with fail
                refine (load_any mj ((now : Int) - 1)).mono ?_; rintro e w5 ⟨rfl, rfl⟩
                rw [q9]
                clear q9
                generalize s'.load ((now : Int) - 1) = p1
                go_wp2_with fail
                go_roundw
                case rel => exact ⟨k + 1, s', by omega, by go_num, mj, A6.out.2.2.1, A6.out.2.1, fun i i1 i2 => A6.out.1 i (by rw [← A6.out.2.2.2]; exact i1) (by omega), hbj⟩
                case measure => simp [intOf]; omega
              · have r1 : ((10 : Int) < now) = False := by simp; omega
                clear jv jz jl jh jf
                go_wp2_with fail
                refine (load_any mj ((now : Int) - 1)).mono ?_; rintro e w5 ⟨rfl, rfl⟩
                generalize s'.err ((now : Int) - 1) = p2
                generalize s'.load ((now : Int) - 1) = p1
                go_wp2_with fail
                go_roundw
                case rel => exact ⟨k + 1, s', by omega, by go_num, mj, A6.out.2.2.1, A6.out.2.1, fun i i1 i2 => A6.out.1 i (by rw [← A6.out.2.2.2]; exact i1) (by omega), hbj⟩
                case measure => simp [intOf]; omega
        · have r1 : ((10 : Int) ≤ z) = True := by simp; omega
          have r2 : (z ≤ 50) = False := by have := Z.out; simp; omega
          go_wp2_with fail
          refine (floor_is m1).mono ?_; rintro e w4 ⟨rfl, rfl⟩
          rw [h1f, hnw]
          go_wp2_with fail
          refine (floor_is m1).mono ?_; rintro e w4 ⟨rfl, rfl⟩
          rw [h1f]
          subst hnw
          clear c1
          go_wp2_with fail
          go_loopw [12] (fun x wr => ∃ j : Nat, ∃ s' : St, now ≤ j ∧ j ≤ 50 ∧ x = iv j ∧ MemS wr B R s' ∧ s'.h = 10 ∧ s'.f = now ∧ s'.c.length = 50 ∧ (∀ i, now ≤ i → i < j → s'.c.getD i 0 = v) ∧ (∀ i, j ≤ i → i < 50 → s'.c.getD i 0 = if i < now then 0 else v) ∧ Below w.heap.size w wr) (fun x _ => 50 - (intOf x).toNat)
          case atStart => exact ⟨now, s1, Nat.le_refl _, n50, rfl, m1, h1h, h1f, h1l, fun i i1 i2 => by omega, h1z, hb3⟩
          case round =>
            obtain ⟨j, s', j1, j2, rfl, mj, jh, jf, jl, jv, jz, hbj⟩ := hrel
            by_cases hj : j < 50
            · have q5 : ((j : Int) < 50) = True := by simp; omega
              have q6 : s'.is j = true := is_of s' _ (by omega)
              have q7 : s'.load j = if j < now then 0 else v := by simp only [St.load, q6, if_true, Int.toNat_natCast]; exact jz j (Nat.le_refl _) hj
              have q8 : s'.err j = 0 := by simp [St.err, q6]
              have v6 : ∀ i, now ≤ i → i < j + 1 → (s'.store j v).c.getD i 0 = v := by
                intro i i1 i2
                simp only [St.store, q6, if_true, Int.toNat_natCast]
                by_cases hij : j = i
                · subst hij; simp [show j < s'.c.length by omega]
                · have := jv i i1 (by omega)
                  simpa [hij] using this
              have z6 : ∀ i, j + 1 ≤ i → i < 50 → (s'.store j v).c.getD i 0 = if i < now then 0 else v := by
                intro i i1 i2
                simp only [St.store, q6, if_true, Int.toNat_natCast]
                have := jz i (by omega) i2
                simpa [show j ≠ i by omega] using this
              have l6 := (len_store s' j v).trans jl
              have h6 : (s'.store j v).h = 10 := by simp only [St.store, q6, if_true]; exact jh
              have f6 : (s'.store j v).f = now := by simp only [St.store, q6, if_true]; exact jf
              have A6 : Hid ((∀ i, now ≤ i → i < j + 1 → (s'.store j v).c.getD i 0 = v) ∧ (∀ i, j + 1 ≤ i → i < 50 → (s'.store j v).c.getD i 0 = if i < now then 0 else v) ∧ (s'.store j v).c.length = 50 ∧ (s'.store j v).h = 10 ∧ (s'.store j v).f = now) := ⟨v6, z6, l6, h6, f6⟩
              clear v6 z6 l6 h6 f6 q6 jz jv jh jf jl
              go_wp2_with fail
              refine (load_any mj j).mono ?_; rintro e w5 ⟨rfl, rfl⟩
              rw [q7, q8]
              clear q7
              by_cases hjw : j < now
              · have r1 : ((j : Int) < now) = True := by simp; omega
                have r2 : ((now : Int) ≤ j) = False := by simp; omega
                rw [if_pos hjw]
                go_wp2_with fail
                refine (store_any mj j v).mono ?_; rintro e w6 ⟨rfl, t6, m6⟩
                rw [q8]
                clear q8
                have hb6 := hbj.trans (t6.below (N := w.heap.size) (by omega) hsz)
                generalize s'.store j v = s6 at m6 A6
                go_wp2_with fail
                go_roundw
                case rel => exact ⟨j + 1, s6, by omega, by omega, by go_num, m6, A6.out.2.2.2.1, A6.out.2.2.2.2, A6.out.2.2.1, A6.out.1, A6.out.2.1, hb6⟩
                case measure => simp [intOf]; omega
              · have r1 : ((j : Int) < now) = False := by simp; omega
                have r2 : ((now : Int) ≤ j) = True := by simp; omega
                rw [if_neg hjw]
                go_wp2_with fail
                refine (store_any mj j v).mono ?_; rintro e w6 ⟨rfl, t6, m6⟩
                rw [q8]
                clear q8
                have hb6 := hbj.trans (t6.below (N := w.heap.size) (by omega) hsz)
                generalize s'.store j v = s6 at m6 A6
                go_wp2_with fail
                go_roundw
                case rel => exact ⟨j + 1, s6, by omega, by omega, by go_num, m6, A6.out.2.2.2.1, A6.out.2.2.2.2, A6.out.2.2.1, A6.out.1, A6.out.2.1, hb6⟩
                case measure => simp [intOf]; omega
            · have q5 : ((j : Int) < 50) = False := by simp; omega
              have A6 : Hid ((∀ i, now ≤ i → i < j → s'.c.getD i 0 = v) ∧ s'.c.length = 50 ∧ s'.h = 10 ∧ s'.f = now) := ⟨jv, jl, jh, jf⟩
              have J : j = 50 := by omega
              by_cases hnow : 10 < now
              · have r1 : ((10 : Int) < now) = True := by simp; omega
                have q9 : s'.err ((now : Int) - 1) = 7 := by simp [St.err, not_is s' ((now : Int) - 1) (by omega)]
                clear jv jz jl jh jf
                go_wp2_with fail
                refine (load_any mj ((now : Int) - 1)).mono ?_; rintro e w5 ⟨rfl, rfl⟩
                rw [q9]
                clear q9
                generalize s'.load ((now : Int) - 1) = p1
                go_wp2_with fail
                go_roundw
                case rel => exact ⟨k + 1, s', by omega, by go_num, mj, A6.out.2.2.1, A6.out.2.1, fun i i1 i2 => A6.out.1 i (by rw [← A6.out.2.2.2]; exact i1) (by omega), hbj⟩
                case measure => simp [intOf]; omega
              · have r1 : ((10 : Int) < now) = False := by simp; omega
                clear jv jz jl jh jf
                go_wp2_with fail
                refine (load_any mj ((now : Int) - 1)).mono ?_; rintro e w5 ⟨rfl, rfl⟩
                generalize s'.err ((now : Int) - 1) = p2
                generalize s'.load ((now : Int) - 1) = p1
                go_wp2_with fail
                go_roundw
                case rel => exact ⟨k + 1, s', by omega, by go_num, mj, A6.out.2.2.1, A6.out.2.1, fun i i1 i2 => A6.out.1 i (by rw [← A6.out.2.2.2]; exact i1) (by omega), hbj⟩
                case measure => simp [intOf]; omega
      · have q1 : s.floorBad z = false := by simp only [St.floorBad, hh, hl]; exact decide_eq_false (by omega)
        obtain ⟨now, rfl⟩ : ∃ now : Nat, z = now := ⟨z.toNat, by omega⟩
        rw [show s.floorErr now = 0 by simp [St.floorErr, q1]]
        obtain ⟨s1, m1, n50, n10, h1h, h1f, h1l, h1z⟩ : ∃ s1, MemS w3 B R s1 ∧ now ≤ 50 ∧ 10 ≤ now ∧ s1.h = 10 ∧ s1.f = now ∧ s1.c.length = 50 ∧ (∀ i, now ≤ i → i < 50 → s1.c.getD i 0 = if i < was then 0 else v) := by
          refine ⟨_, m1, by omega, by omega, ?_, ?_, h1l, ?_⟩
          · simp [St.setFloor, q1, hh]
          · simp [St.setFloor, q1]
          · intro i i1 i2
            simp only [St.setFloor, q1, Int.toNat_natCast]
            rw [if_neg (by simp)]
            by_cases hnw : (now : Int) < s.f
            · simp only [if_pos hnw]
              rw [wipe_get _ _ _ (by omega)]
              by_cases hiw : i < was
              · rw [if_pos ⟨i1, by omega⟩, if_pos hiw]
              · rw [if_neg (by omega), if_neg hiw]; exact hv i (by omega) i2
            · simp only [if_neg hnw]
              rw [if_neg (by omega)]; exact hv i (by omega) i2
        have r1 : ((10 : Int) ≤ now) = True := by simp; omega
        have r2 : ((now : Int) ≤ 50) = True := by simp; omega
        clear hz hh hl hv hwas q1
        go_wp2_with fail
        refine (floor_is m1).mono ?_; rintro e w4 ⟨rfl, rfl⟩
        rw [h1f]
        clear c1
        go_wp2_with fail
        go_loopw [12] (fun x wr => ∃ j : Nat, ∃ s' : St, now ≤ j ∧ j ≤ 50 ∧ x = iv j ∧ MemS wr B R s' ∧ s'.h = 10 ∧ s'.f = now ∧ s'.c.length = 50 ∧ (∀ i, now ≤ i → i < j → s'.c.getD i 0 = v) ∧ (∀ i, j ≤ i → i < 50 → s'.c.getD i 0 = if i < was then 0 else v) ∧ Below w.heap.size w wr) (fun x _ => 50 - (intOf x).toNat)
        case atStart => exact ⟨now, s1, Nat.le_refl _, n50, rfl, m1, h1h, h1f, h1l, fun i i1 i2 => by omega, h1z, hb3⟩
        case round =>
          obtain ⟨j, s', j1, j2, rfl, mj, jh, jf, jl, jv, jz, hbj⟩ := hrel
          by_cases hj : j < 50
          · have q5 : ((j : Int) < 50) = True := by simp; omega
            have q6 : s'.is j = true := is_of s' _ (by omega)
            have q7 : s'.load j = if j < was then 0 else v := by simp only [St.load, q6, if_true, Int.toNat_natCast]; exact jz j (Nat.le_refl _) hj
            have q8 : s'.err j = 0 := by simp [St.err, q6]
            have v6 : ∀ i, now ≤ i → i < j + 1 → (s'.store j v).c.getD i 0 = v := by
              intro i i1 i2
              simp only [St.store, q6, if_true, Int.toNat_natCast]
              by_cases hij : j = i
              · subst hij; simp [show j < s'.c.length by omega]
              · have := jv i i1 (by omega)
                simpa [hij] using this
            have z6 : ∀ i, j + 1 ≤ i → i < 50 → (s'.store j v).c.getD i 0 = if i < was then 0 else v := by
              intro i i1 i2
              simp only [St.store, q6, if_true, Int.toNat_natCast]
              have := jz i (by omega) i2
              simpa [show j ≠ i by omega] using this
            have l6 := (len_store s' j v).trans jl
            have h6 : (s'.store j v).h = 10 := by simp only [St.store, q6, if_true]; exact jh
            have f6 : (s'.store j v).f = now := by simp only [St.store, q6, if_true]; exact jf
            have A6 : Hid ((∀ i, now ≤ i → i < j + 1 → (s'.store j v).c.getD i 0 = v) ∧ (∀ i, j + 1 ≤ i → i < 50 → (s'.store j v).c.getD i 0 = if i < was then 0 else v) ∧ (s'.store j v).c.length = 50 ∧ (s'.store j v).h = 10 ∧ (s'.store j v).f = now) := ⟨v6, z6, l6, h6, f6⟩
            clear v6 z6 l6 h6 f6 q6 jz jv jh jf jl
            go_wp2_with fail
            refine (load_any mj j).mono ?_; rintro e w5 ⟨rfl, rfl⟩
            rw [q7, q8]
            clear q7
            by_cases hjw : j < was
            · have r1 : ((j : Int) < was) = True := by simp; omega
              have r2 : ((was : Int) ≤ j) = False := by simp; omega
              rw [if_pos hjw]
              go_wp2_with fail
              refine (store_any mj j v).mono ?_; rintro e w6 ⟨rfl, t6, m6⟩
              rw [q8]
              clear q8
              have hb6 := hbj.trans (t6.below (N := w.heap.size) (by omega) hsz)
              generalize s'.store j v = s6 at m6 A6
              go_wp2_with fail
              go_roundw
              case rel => exact ⟨j + 1, s6, by omega, by omega, by go_num, m6, A6.out.2.2.2.1, A6.out.2.2.2.2, A6.out.2.2.1, A6.out.1, A6.out.2.1, hb6⟩
              case measure => simp [intOf]; omega
            · have r1 : ((j : Int) < was) = False := by simp; omega
              have r2 : ((was : Int) ≤ j) = True := by simp; omega
              rw [if_neg hjw]
              go_wp2_with fail
              refine (store_any mj j v).mono ?_; rintro e w6 ⟨rfl, t6, m6⟩
              rw [q8]
              clear q8
              have hb6 := hbj.trans (t6.below (N := w.heap.size) (by omega) hsz)
              generalize s'.store j v = s6 at m6 A6
              go_wp2_with fail
              go_roundw
              case rel => exact ⟨j + 1, s6, by omega, by omega, by go_num, m6, A6.out.2.2.2.1, A6.out.2.2.2.2, A6.out.2.2.1, A6.out.1, A6.out.2.1, hb6⟩
              case measure => simp [intOf]; omega
          · have q5 : ((j : Int) < 50) = False := by simp; omega
            have A6 : Hid ((∀ i, now ≤ i → i < j → s'.c.getD i 0 = v) ∧ s'.c.length = 50 ∧ s'.h = 10 ∧ s'.f = now) := ⟨jv, jl, jh, jf⟩
            have J : j = 50 := by omega
            by_cases hnow : 10 < now
            · have r1 : ((10 : Int) < now) = True := by simp; omega
              have q9 : s'.err ((now : Int) - 1) = 7 := by simp [St.err, not_is s' ((now : Int) - 1) (by omega)]
              clear jv jz jl jh jf
              go_wp2_with fail
              refine (load_any mj ((now : Int) - 1)).mono ?_; rintro e w5 ⟨rfl, rfl⟩
              rw [q9]
              clear q9
              generalize s'.load ((now : Int) - 1) = p1
              go_wp2_with fail
              go_roundw
              case rel => exact ⟨k + 1, s', by omega, by go_num, mj, A6.out.2.2.1, A6.out.2.1, fun i i1 i2 => A6.out.1 i (by rw [← A6.out.2.2.2]; exact i1) (by omega), hbj⟩
              case measure => simp [intOf]; omega
            · have r1 : ((10 : Int) < now) = False := by simp; omega
              clear jv jz jl jh jf
              go_wp2_with fail
              refine (load_any mj ((now : Int) - 1)).mono ?_; rintro e w5 ⟨rfl, rfl⟩
              generalize s'.err ((now : Int) - 1) = p2
              generalize s'.load ((now : Int) - 1) = p1
              go_wp2_with fail
              go_roundw
              case rel => exact ⟨k + 1, s', by omega, by go_num, mj, A6.out.2.2.1, A6.out.2.1, fun i i1 i2 => A6.out.1 i (by rw [← A6.out.2.2.2]; exact i1) (by omega), hbj⟩
              case measure => simp [intOf]; omega
    · have e4 : ((k : Int) < n) = False := by simp; omega
      go_wp2_with fail
      refine (heap_is m).mono ?_; rintro e w3 ⟨rfl, rfl⟩
      rw [hh]
      go_wp2_with fail
      go_ret
      exact ⟨rfl, hb⟩
end Go.Proofs.Ytmpfcplkgkhboaa
