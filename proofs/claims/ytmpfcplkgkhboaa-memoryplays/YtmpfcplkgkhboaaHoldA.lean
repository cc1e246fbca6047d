/-
  The law MemoryHolds (layer 3), by walks over the translation.
-/
import Derived.Test.YtmpfcplkgkhboaaAny
namespace Go.Proofs.Ytmpfcplkgkhboaa
open Go.ChangeShapes Go.WideShapes Go.ChangeAt Go.RowKit

/-- A step that came in: three numbers. -/
structure Trio where
  a : Int
  b : Int
  c : Int

def HasTrios (w : World) (blk off : Nat) (l : List Trio) : Prop :=
  ∀ j (hj : j < l.length), w.cell? ⟨blk, off + j * 3, none⟩ = some (iv l[j].a) ∧ w.cell? ⟨blk, off + j * 3 + 1, none⟩ = some (iv l[j].b) ∧ w.cell? ⟨blk, off + j * 3 + 2, none⟩ = some (iv l[j].c)

theorem HasTrios.below {w w' : World} {N blk off : Nat} {l : List Trio} (h : HasTrios w blk off l) (hb : Below N w w') (hlt : blk < N) : HasTrios w' blk off l := fun j hj => by
  obtain ⟨h1, h2, h3⟩ := h j hj
  exact ⟨(hb.cell (p := ⟨blk, _, none⟩) hlt).trans h1, (hb.cell (p := ⟨blk, _, none⟩) hlt).trans h2, (hb.cell (p := ⟨blk, _, none⟩) hlt).trans h3⟩

theorem len_setFloor {w : World} {B R : Nat} {s : St} (m : MemS w B R s) (a : Int) : (s.setFloor a).c.length = s.c.length := by
  unfold St.setFloor
  split
  · rfl
  · rename_i hb
    simp [St.floorBad] at hb
    split
    · have := m.fn; have := m.one; exact wipe_len _ _ _ (by omega)
    · rfl
theorem len_alloc {w : World} {B R : Nat} {s : St} (m : MemS w B R s) (k : Int) : (s.alloc k).c.length = s.c.length := by
  unfold St.alloc
  split
  · rfl
  · rename_i hb
    simp [St.allocBad] at hb
    have := m.fn; exact wipe_len _ _ _ (by omega)
theorem len_store (s : St) (a v : Int) : (s.store a v).c.length = s.c.length := by
  unfold St.store
  split
  · simp
  · rfl

theorem store_same (s : St) (a v j : Int) : (s.store a v).is j = s.is j := by
  unfold St.store
  split
  · simp only [St.is, List.length_set]
  · rfl
theorem store_err (s : St) (a v j : Int) : (s.store a v).err j = s.err j := by
  unfold St.err
  rw [store_same]
theorem store_load (s : St) {w : World} {B R : Nat} (m : MemS w B R s) (a v : Int) (h : s.is a = true) : (s.store a v).load a = v := by
  have hlt : a.toNat < s.c.length := by
    have := m.hf; have := m.fn
    unfold St.is isCell at h; simp at h; omega
  rw [St.load, store_same, if_pos h, St.store, if_pos h]
  simp [hlt]
theorem store_other (s : St) (a v j : Int) (hj : j ≠ a) : (s.store a v).load j = s.load j := by
  rw [St.load, St.load, store_same]
  by_cases h2 : s.is j = true
  · rw [if_pos h2, if_pos h2]
    unfold St.store
    split
    · rename_i h
      have : a.toNat ≠ j.toNat := by
        unfold St.is isCell at h h2; simp at h h2; omega
      simp [this]
    · rfl
  · rw [if_neg h2, if_neg h2]

set_option maxRecDepth 100000 in
set_option maxHeartbeats 2000000 in
theorem holds_walk (av : Option Addr) (n cap : Nat) (l : List Trio) (a v : Int) (w : World) (hn : l.length = n) (hav : 0 < n → ∃ blk off, av = some ⟨blk, off, none⟩ ∧ blk < w.heap.size ∧ HasTrios w blk off l) :
    Calls Try.prog 4 #[.slice av n cap, iv a, iv v] w fun e w' => e = .returned (.bool true) ∧ Below w.heap.size w w' := by
  by_cases hbig : 200 < n
  · have e1 : ((200 : Int) < n) = True := by simp; omega
    go_enter Try.func4, Try.ntmps4
    go_wp2_with fail
    refine (small_is _).mono ?_; rintro e w1 ⟨rfl, hb1⟩
    go_wp2_with fail
    refine (new_is 60 (by decide) (by decide) w1).mono ?_; rintro e w2 ⟨rfl, hb2, _, _⟩
    go_wp2_with fail
    go_ret
    exact ⟨rfl, hb1.trans (hb2.mono hb1.size)⟩
  have e1 : ((200 : Int) < n) = False := by simp; omega
  obtain ⟨blk, off, hbo⟩ : ∃ blk off, 0 < n → av = some ⟨blk, off, none⟩ ∧ blk < w.heap.size ∧ HasTrios w blk off l := by
    by_cases h0 : 0 < n
    · obtain ⟨blk, off, h⟩ := hav h0
      exact ⟨blk, off, fun _ => h⟩
    · exact ⟨0, 0, fun h => absurd h h0⟩
  clear hav
  have HB : Hid (0 < n → av = some ⟨blk, off, none⟩ ∧ blk < w.heap.size ∧ HasTrios w blk off l) := hbo
  clear hbo
  go_enter Try.func4, Try.ntmps4
  go_wp2_with fail
  refine (small_is _).mono ?_; rintro e w1 ⟨rfl, hb1⟩
  go_wp2_with fail
  refine (new_is 60 (by decide) (by decide) w1).mono ?_; rintro e w2 ⟨rfl, hb2, hs2, m2⟩
  have hB2 : Below w.heap.size w w2 := hb1.trans (hb2.mono hb1.size)
  have hsz := hb1.size
  generalize hB : w1.heap.size + 1 = B at *
  generalize hR : w1.heap.size = R at *
  go_wp2_with fail
  go_loopw [10] (fun i wr => ∃ k : Nat, ∃ s : St, k ≤ n ∧ i = iv k ∧ MemS wr B R s ∧ s.c.length = 60 ∧ Below w.heap.size w wr) (fun i _ => n - (intOf i).toNat)
  case atStart => exact ⟨0, fresh 60, Nat.zero_le _, rfl, m2, rfl, hB2⟩
  case round =>
    obtain ⟨k, s, hk, rfl, m, hl, hb⟩ := hrel
    by_cases hlt : k < n
    · obtain ⟨rfl, hblk, hT⟩ := HB.out (by omega)
      obtain ⟨c0, c1, c2⟩ := (hT.below hb hblk) k (by omega)
      generalize l[k]'(by omega) = t at c0 c1 c2
      obtain ⟨x, y, z⟩ := t
      have e2 : ((k : Int) < n) = True := by simp; omega
      dsimp only at c0 c1 c2
      go_wp2_with fail
      · refine (setFloor_any m y).mono ?_; rintro e w3 ⟨rfl, t3, m3⟩
        have hl3 := (len_setFloor m y).trans hl
        generalize s.floorErr y = er
        generalize s.setFloor y = s3 at m3 hl3
        have hb3 := hb.trans (t3.below (N := w.heap.size) (by omega) hsz)
        have f1 : ((s3.f : Int) < s3.h) = False := by have := m3.hf; simp; omega
        have f2 : ((s3.h : Int) < 1) = False := by have := m3.one; simp; omega
        have f3 : ((60 : Int) < s3.f) = False := by have := m3.fn; simp; omega
        go_wp2_with fail
        refine (heap_is m3).mono ?_; rintro e w' ⟨rfl, rfl⟩
        go_wp2_with fail
        refine (floor_is m3).mono ?_; rintro e w' ⟨rfl, rfl⟩
        go_wp2_with fail
        refine (heap_is m3).mono ?_; rintro e w' ⟨rfl, rfl⟩
        go_wp2_with fail
        refine (floor_is m3).mono ?_; rintro e w' ⟨rfl, rfl⟩
        go_wp2_with fail
        refine (cells_is m3).mono ?_; rintro e w' ⟨rfl, rfl⟩
        go_wp2_with fail
        go_roundw
        case rel => exact ⟨k + 1, s3, by omega, by go_num, m3, hl3, hb3⟩
        case measure => simp [intOf]; omega
      · refine (alloc_any m y).mono ?_; rintro e w3 ⟨rfl, t3, m3⟩
        have hl3 := (len_alloc m y).trans hl
        generalize s.allocErr y = er
        generalize s.allocAt y = ew
        generalize s.alloc y = s3 at m3 hl3
        have hb3 := hb.trans (t3.below (N := w.heap.size) (by omega) hsz)
        have f1 : ((s3.f : Int) < s3.h) = False := by have := m3.hf; simp; omega
        have f2 : ((s3.h : Int) < 1) = False := by have := m3.one; simp; omega
        have f3 : ((60 : Int) < s3.f) = False := by have := m3.fn; simp; omega
        go_wp2_with fail
        refine (heap_is m3).mono ?_; rintro e w' ⟨rfl, rfl⟩
        go_wp2_with fail
        refine (floor_is m3).mono ?_; rintro e w' ⟨rfl, rfl⟩
        go_wp2_with fail
        refine (heap_is m3).mono ?_; rintro e w' ⟨rfl, rfl⟩
        go_wp2_with fail
        refine (floor_is m3).mono ?_; rintro e w' ⟨rfl, rfl⟩
        go_wp2_with fail
        refine (cells_is m3).mono ?_; rintro e w' ⟨rfl, rfl⟩
        go_wp2_with fail
        go_roundw
        case rel => exact ⟨k + 1, s3, by omega, by go_num, m3, hl3, hb3⟩
        case measure => simp [intOf]; omega
      · go_region_with (refine (store_any m.drew y z).mono ?_; rintro e w3 ⟨rfl, t3, m3⟩)
        all_goals
          replace t3 := (((Touch.refl B R wr).drew).trans t3)
          have hl3 := (len_store s y z).trans hl
          generalize s.err y = er
          generalize s.store y z = s3 at m3 hl3
          have hb3 := hb.trans (t3.below (N := w.heap.size) (by omega) hsz)
          have f1 : ((s3.f : Int) < s3.h) = False := by have := m3.hf; simp; omega
          have f2 : ((s3.h : Int) < 1) = False := by have := m3.one; simp; omega
          have f3 : ((60 : Int) < s3.f) = False := by have := m3.fn; simp; omega
          go_wp2_with fail
          refine (heap_is m3).mono ?_; rintro e w' ⟨rfl, rfl⟩
          go_wp2_with fail
          refine (floor_is m3).mono ?_; rintro e w' ⟨rfl, rfl⟩
          go_wp2_with fail
          refine (heap_is m3).mono ?_; rintro e w' ⟨rfl, rfl⟩
          go_wp2_with fail
          refine (floor_is m3).mono ?_; rintro e w' ⟨rfl, rfl⟩
          go_wp2_with fail
          refine (cells_is m3).mono ?_; rintro e w' ⟨rfl, rfl⟩
          go_wp2_with fail
          go_roundw
          case rel => exact ⟨k + 1, s3, by omega, by go_num, m3, hl3, hb3⟩
          case measure => simp [intOf]; omega
    · have e2 : ((k : Int) < n) = False := by simp; omega
      have q1 := m.ltB
      have q2 := m.ltR
      go_wp2_with fail
      refine (copy_is m).mono ?_; rintro e w3 ⟨rfl, hb3, hs3, m3⟩
      have mx := m.below hb3 q1 q2
      have hb3' := hb.trans (hb3.mono hb.size)
      generalize hB2' : wr.heap.size + 1 = B2 at *
      generalize hR2' : wr.heap.size = R2 at *
      go_wp2_with fail
      refine (store_any (s := s) m3 a v).mono ?_; rintro e w4 ⟨rfl, t4, m4⟩
      have mx4 : MemS w4 B R s := mx.touch t4 (by omega) (by omega) (by omega) (by omega)
      have hb4 := hb3'.trans (t4.below (N := w.heap.size) (by omega) (by omega))
      go_wp2_with fail
      refine (load_any m4 a).mono ?_; rintro e w5 ⟨rfl, rfl⟩
      have g1 : (s.store a v).err a = s.err a := store_err s a v a
      have g2 : s.is a = true → (s.store a v).load a = v := fun h => store_load s m a v h
      have g3 : s.err a = 0 ∧ s.is a = true ∨ s.err a = 7 ∧ s.is a = false := by unfold St.err; cases s.is a <;> simp
      have g4 : ∀ j, (s.store a v).err j = s.err j := store_err s a v
      have g5 : ∀ j, j ≠ a → (s.store a v).load j = s.load j := store_other s a v
      have g6 : (s.store a v).h = s.h ∧ (s.store a v).f = s.f := by unfold St.store; split <;> exact ⟨rfl, rfl⟩
      rw [g1]
      have G : Hid ((∀ j, (s.store a v).err j = s.err j) ∧ (∀ j, j ≠ a → (s.store a v).load j = s.load j)) := ⟨g4, g5⟩
      have G2 : Hid ((s.store a v).h = s.h ∧ (s.store a v).f = s.f) := g6
      clear g1 g4 g5 g6
      generalize s.store a v = s2 at *
      generalize s.err a = er at *
      generalize hld : s2.load a = ld at *
      rcases g3 with ⟨rfl, hi⟩ | ⟨rfl, hi⟩
      · obtain rfl := g2 hi
        clear hld g2
        go_wp2_with fail
        go_loop [15] (fun i => ∃ k : Nat, k ≤ 60 ∧ i = iv k) (fun i => 60 - (intOf i).toNat)
        case atStart => exact ⟨0, by omega, rfl⟩
        case round =>
          obtain ⟨j, hj, rfl⟩ := hrel
          by_cases hjl : j < 60
          · have e5 : ((j : Int) < 60) = True := by simp; omega
            go_wp2_with fail
            refine (load_any mx4 j).mono ?_; rintro e w6 ⟨rfl, rfl⟩
            go_wp2_with fail
            refine (load_any m4 j).mono ?_; rintro e w6 ⟨rfl, rfl⟩
            have u1 := G.out.1 j
            rw [u1]
            clear u1
            by_cases hja : (j : Int) = a
            · have u2 : ((j : Int) != a) = false := by simpa using hja
              clear hja
              generalize s.load j = p1
              generalize s2.load j = p2
              generalize s.err j = p3
              go_wp2_with fail
              go_round
              case rel => exact ⟨j + 1, by omega, by go_num⟩
              case measure => simp [intOf]; omega
            · have u3 := G.out.2 j hja
              rw [u3]
              clear u3
              generalize s.load j = p1
              generalize s.err j = p3
              go_wp2_with fail
              go_round
              case rel => exact ⟨j + 1, by omega, by go_num⟩
              case measure => simp [intOf]; omega
          · have e5 : ((j : Int) < 60) = False := by simp; omega
            go_wp2_with fail
            refine (heap_is m4).mono ?_; rintro e w6 ⟨rfl, rfl⟩
            rw [G2.out.1]
            go_wp2_with fail
            refine (heap_is mx4).mono ?_; rintro e w6 ⟨rfl, rfl⟩
            go_wp2_with fail
            refine (floor_is m4).mono ?_; rintro e w6 ⟨rfl, rfl⟩
            rw [G2.out.2]
            go_wp2_with fail
            refine (floor_is mx4).mono ?_; rintro e w6 ⟨rfl, rfl⟩
            go_wp2_with fail
            go_ret
            exact ⟨rfl, hb4⟩
      · clear hld g2
        go_wp2_with fail
        go_loop [15] (fun i => ∃ k : Nat, k ≤ 60 ∧ i = iv k) (fun i => 60 - (intOf i).toNat)
        case atStart => exact ⟨0, by omega, rfl⟩
        case round =>
          obtain ⟨j, hj, rfl⟩ := hrel
          by_cases hjl : j < 60
          · have e5 : ((j : Int) < 60) = True := by simp; omega
            go_wp2_with fail
            refine (load_any mx4 j).mono ?_; rintro e w6 ⟨rfl, rfl⟩
            go_wp2_with fail
            refine (load_any m4 j).mono ?_; rintro e w6 ⟨rfl, rfl⟩
            have u1 := G.out.1 j
            rw [u1]
            clear u1
            by_cases hja : (j : Int) = a
            · have u2 : ((j : Int) != a) = false := by simpa using hja
              clear hja
              generalize s.load j = p1
              generalize s2.load j = p2
              generalize s.err j = p3
              go_wp2_with fail
              go_round
              case rel => exact ⟨j + 1, by omega, by go_num⟩
              case measure => simp [intOf]; omega
            · have u3 := G.out.2 j hja
              rw [u3]
              clear u3
              generalize s.load j = p1
              generalize s.err j = p3
              go_wp2_with fail
              go_round
              case rel => exact ⟨j + 1, by omega, by go_num⟩
              case measure => simp [intOf]; omega
          · have e5 : ((j : Int) < 60) = False := by simp; omega
            go_wp2_with fail
            refine (heap_is m4).mono ?_; rintro e w6 ⟨rfl, rfl⟩
            rw [G2.out.1]
            go_wp2_with fail
            refine (heap_is mx4).mono ?_; rintro e w6 ⟨rfl, rfl⟩
            go_wp2_with fail
            refine (floor_is m4).mono ?_; rintro e w6 ⟨rfl, rfl⟩
            rw [G2.out.2]
            go_wp2_with fail
            refine (floor_is mx4).mono ?_; rintro e w6 ⟨rfl, rfl⟩
            go_wp2_with fail
            go_ret
            exact ⟨rfl, hb4⟩
end Go.Proofs.Ytmpfcplkgkhboaa
