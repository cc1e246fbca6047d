/-
  slices.Repeat of one number (layer 7).
-/
import Derived.Test.YtonoeodlchkiaaaRfB
import Derived.Laws.CopyOwn
import Derived.Laws.Bits64b
import Derived.Laws.CopyRow
namespace Go.Proofs.Ytonoeodlchkiaaa
open Go.ChangeShapes Go.WideShapes Go.ChangeAt Go.RowKit Go.Shelf

theorem mask_u64 (a : Nat) (ha : a ≤ 4096) : bits .and .u64 (a : Int) 4294967295 = (a : Int) := by
  have h := bits_and_u64_nat a 4294967295 (by omega) (by omega)
  rw [show a &&& 4294967295 = a % 4294967296 from Nat.and_two_pow_sub_one_eq_mod a 32, Nat.mod_eq_of_lt (by omega)] at h
  exact h

set_option maxRecDepth 100000 in
theorem mul64_one (n : Nat) (hn : n ≤ 4096) (w : World) : Calls Try.prog 57 #[.int .u64 1, .int .u64 (n : Int)] w fun e w' => e = .returned (.tuple #[.int .u64 0, .int .u64 (n : Int)]) ∧ w' = w := by
  have h0 : bits .and .u64 0 4294967295 = 0 := mask_u64 0 (by omega)
  have h1 : bits .and .u64 1 4294967295 = 1 := mask_u64 1 (by omega)
  have h2 := mask_u64 n hn
  have h3 : (n : Int) / 4294967296 = 0 := by omega
  go_enter Try.func57, Try.ntmps57
  go_wp2
  go_ret2
  exact ⟨rfl, rfl⟩
set_option maxRecDepth 100000 in
theorem mul_one_is (n : Nat) (hn : n ≤ 4096) (w : World) : Calls Try.prog 45 #[.int .u64 1, .int .u64 (n : Int)] w fun e w' => e = .returned (.tuple #[.int .u64 0, .int .u64 (n : Int)]) ∧ w' = w := by
  have h := mul64_one n hn w
  go_enter Try.func45, Try.ntmps45
  go_wp2_with fail
  refine h.mono ?_
  rintro e w' ⟨rfl, rfl⟩
  go_wp2
  go_ret2
  exact ⟨rfl, rfl⟩

/-- A block of numbers that are x up to k. -/
def Upto (W : World) (B : Nat) (x : Int) (n k : Nat) : Prop := ∃ cur : List Value, W.heap[B]? = some (.cells cur.toArray 3 (0, 0)) ∧ cur.length = n ∧ ∀ j, j < k → cur[j]? = some (.int .i64 x)
theorem info3 : (Try.prog.info? 3).map (·.size) = some 1 := by kernel_rfl
/-- m more of them are copied. -/
theorem upto_copy {W : World} {B : Nat} {x : Int} {n k : Nat} (h : Upto W B x n k) (ty : TypeId) (ad : Addr) (m c1 c2 s1 d1 : Nat) (hm : m = Nat.min s1 d1) (hkm : k + m ≤ n) (hsrc : ∀ j, j < m → W.cell? (ad.add j) = some (.int .i64 x)) :
    ∃ W', (Builtin.copy_ #[25, 25] ty #[.slice (some ⟨B, k, none⟩) d1 c1, .slice (some ad) s1 c2]).run Try.prog W = .ok (.int .i64 (m : Int)) W' ∧ Turns (fun b => b = B) W W' ∧ Upto W' B x n (k + m) := by
  obtain ⟨cur, hg, hl, hx⟩ := h
  have hr := run_copy_row (P := Try.prog) W 25 25 ty 3 B k d1 c1 ad s1 c2 cur.toArray 3 (List.replicate m (.int .i64 x)) Try.underlying25 info3 hg (by rw [List.length_replicate]; exact hm)
    (fun j v hj => by
      have hjm : j < m := by have := (List.getElem?_eq_some_iff.1 hj).1; simpa using this
      rw [List.getElem?_replicate, if_pos hjm] at hj
      rw [hsrc j hjm, hj]) (by simp; omega) (fun v hv => by rw [List.mem_replicate] at hv; rw [hv.2]; rfl)
  rw [List.length_replicate] at hr
  refine ⟨_, hr, ?_, (cur.take k ++ List.replicate m (.int .i64 x)) ++ cur.drop (k + m), ?_, ?_, fun j hj => ?_⟩
  · exact ⟨rfl, rfl, rfl, by simp [World.setRow], fun b _ hq => setRow_other W B b _ hq⟩
  · have := setRow_heap W B cur.toArray (cur.take k ++ List.replicate m (Value.int .i64 x) ++ cur.drop (k + m)).toArray 3 (0, 0) hg
    exact this
  · simp; omega
  · rw [List.getElem?_append_left (by simp; omega)]
    by_cases hjk : j < k
    · rw [List.getElem?_append_left (by simp; omega), List.getElem?_take, if_pos hjk]; exact hx j hjk
    · rw [List.getElem?_append_right (by simp; omega), List.getElem?_replicate, if_pos (by simp; omega)]

set_option maxRecDepth 100000 in
set_option maxHeartbeats 2000000 in
theorem repeat_is (S n : Nat) (x : Int) (h1 : 1 ≤ n) (hn : n ≤ 4096) (w : World) (hS : w.cell? ⟨S, 0, none⟩ = some (.int .i64 x)) (hSl : S < w.heap.size) :
    Calls Try.prog 26 #[.slice (some ⟨S, 0, none⟩) 1 1, .int .i64 (n : Int)] w fun e w' => Below w.heap.size w w' ∧ ∃ B, w.heap.size ≤ B ∧ e = .returned (.slice (some ⟨B, 0, none⟩) n n) ∧ w'.heap[B]? = some (.cells (intsI (List.replicate n x)).toArray 3 (0, 0)) := by
  have hm := mul_one_is n hn w
  have mk := make_ints n (by omega)
  have q1 : ((n : Int) < 0) = False := eq_false (by omega)
  have q2 : ((9223372036854775807 : Int) < (n : Int)) = False := eq_false (by omega)
  have hb1 : Below w.heap.size w (w.alloc (.cells (Array.replicate n (.int .i64 0)) 3)) := (Below.refl _ w).alloc (Nat.le_refl _) _
  have hu : Upto (w.alloc (.cells (Array.replicate n (.int .i64 0)) 3)) w.heap.size x n 0 := ⟨List.replicate n (.int .i64 0), by rw [List.toArray_replicate]; exact World.alloc_heap_new w _, by simp, fun j hj => absurd hj (Nat.not_lt_zero _)⟩
  obtain ⟨W2, hcp, hT2, hu2⟩ := upto_copy hu 3 ⟨S, 0, none⟩ 1 n 1 1 n (by show 1 = min 1 n; omega) (by omega) (fun j hj => by
    obtain rfl : j = 0 := by omega
    rw [Addr.add_mid]; exact (hb1.cell (p := ⟨S, 0, none⟩) hSl).trans hS)
  have hcp2 : (Builtin.copy_ #[25, 25] 3 #[.slice (some ⟨w.heap.size, 0, none⟩) n n, .slice (some ⟨S, 0, none⟩) 1 1]).run Try.prog (w.alloc (.cells (Array.replicate n (.int .i64 0)) 3)) = .ok (.int .i64 1) W2 := hcp
  have hB2 : Below w.heap.size w W2 := hT2.below hb1 (by simp) (fun b hb hq => by omega)
  clear hS hcp hT2 hb1 hu
  go_enter Try.func26, Try.ntmps26
  go_wp2_with fail
  refine hm.mono ?_
  rintro e w' ⟨rfl, rfl⟩
  clear hm
  go_wp2
  clear hcp2 q1 q2 mk
  rw [Nat.zero_add] at hu2
  generalize hB : w'.heap.size = B at *
  go_loopw [8] (fun i W => ∃ k : Nat, i = .int .i64 k ∧ 1 ≤ k ∧ k ≤ n ∧ Below B w' W ∧ Upto W B x n k) (fun i _ => n - (intOf i).toNat)
  case atStart => exact ⟨1, rfl, Nat.le_refl _, h1, hB2, hu2⟩
  case round =>
    clear hB2 hu2
    obtain ⟨k, rfl, hk1, hk, hBW, hu⟩ := hrel
    by_cases hkl : k < n
    · have e1 : ((k : Int) < (n : Int)) = True := eq_true (by omega)
      obtain ⟨m, hm⟩ : ∃ m, m = Nat.min k (n - k) := ⟨_, rfl⟩
      have hm1 : 1 ≤ m := by rw [hm]; show 1 ≤ min k (n - k); omega
      have hm2 : k + m ≤ n := by rw [hm]; show k + min k (n - k) ≤ n; omega
      have hu' : Upto wr.drew B x n k := hu
      obtain ⟨W3, hcp, hT3, hu3⟩ := upto_copy hu' 3 ⟨B, 0, none⟩ m (n - k) n k (n - k) hm hm2 (fun j hj => by
        obtain ⟨cur, hg, hl, hx⟩ := hu'
        rw [Addr.add_mid, Nat.zero_add, cell_of hg, List.getElem?_toArray]
        exact hx j (by have : m ≤ k := by (rw [hm]; exact Nat.min_le_left _ _)
                       omega))
      have HOUT : Hid (Below B w' W3 ∧ Upto W3 B x n (k + m)) := ⟨Turns.below (A := wr.drew) ⟨hBW.os, hBW.tape, hBW.output, hBW.size, hBW.block⟩ (by have := hBW.size; show B ≤ wr.heap.size; omega) hT3 (fun b hb hq => by omega), hu3⟩
      have hmb : m ≤ 4096 := by omega
      have HM := hide (And.intro hm1 (And.intro hm2 (And.intro hn hk1)))
      have hkb : k ≤ 4096 := by omega
      have e2 : (n = k) = False := eq_false (by omega)
      clear hu hu' hT3 hu3 hm
      go_wp2
      refine wp_region_held_drew (S := fun _ => True) (by kernel_rfl) trivial (fun hHeld => ?_)
      refine wpAnyH_take (i := 0) (v := ?_) rfl (by kernel_rfl) (by kernel_rfl) (by kernel_rfl) (fun _ _ _ h => h) (Or.inl ⟨by rfl, ?_⟩) hHeld ?_
      rotate_left 1
      · intro w hSw; (try dsimp only at hSw); go_simp; try with_reducible rfl
      refine wpAnyH_take (i := 1) (v := ?_) rfl (by kernel_rfl) (by kernel_rfl) (by kernel_rfl) (fun _ _ _ h => h) (Or.inl ⟨by rfl, ?_⟩) hHeld ?_
      rotate_left 1
      · intro w hSw; (try dsimp only at hSw); go_simp; try with_reducible rfl
      refine wpAnyH_take (i := 2) (v := ?_) rfl (by kernel_rfl) (by kernel_rfl) (by kernel_rfl) (fun _ _ _ h => h) (Or.inl ⟨by rfl, ?_⟩) hHeld ?_
      rotate_left 1
      · intro w hSw; (try dsimp only at hSw); go_simp; try with_reducible rfl
      refine wpAnyH_take (i := 3) (v := ?_) rfl (by kernel_rfl) (by kernel_rfl) (by kernel_rfl) (fun _ _ _ h => h) (Or.inl ⟨by rfl, ?_⟩) hHeld ?_
      rotate_left 1
      · intro w hSw; (try dsimp only at hSw); go_simp; try with_reducible rfl
      refine wpAnyH_take (i := 4) (v := ?_) rfl (by kernel_rfl) (by kernel_rfl) (by kernel_rfl) (fun _ _ _ h => h) (Or.inl ⟨by rfl, ?_⟩) hHeld ?_
      rotate_left 1
      · intro w hSw; (try dsimp only at hSw); go_simp; try with_reducible rfl
      refine wpAnyH_take (i := 5) (v := ?_) rfl (by kernel_rfl) (by kernel_rfl) (by kernel_rfl) (fun _ _ _ h => h) (Or.inl ⟨by rfl, ?_⟩) hHeld ?_
      rotate_left 1
      · intro w hSw; (try dsimp only at hSw); go_simp; try with_reducible rfl
      refine wpAnyH_take (i := 6) (v := ?_) rfl (by kernel_rfl) (by kernel_rfl) (by kernel_rfl) (fun _ _ _ h => h) (Or.inl ⟨by rfl, ?_⟩) hHeld ?_
      rotate_left 1
      · intro w hSw; (try dsimp only at hSw); go_simp; try with_reducible rfl
      refine wpAnyH_ready (rs := [7]) (by kernel_rfl) (by simp) (AllReadyH.cons rfl (fun K hK => ?_) (AllReadyH.nil))
      · go_simp
        refine hK.out _ _ trivial (fun hHeld => ?_)
        clear hK K
        refine wpAnyH_take (i := 8) (v := ?_) rfl (by kernel_rfl) (by kernel_rfl) (by kernel_rfl) (fun _ _ _ h => h) (Or.inl ⟨by rfl, ?_⟩) hHeld ?_
        rotate_left 1
        · intro w hSw; (try dsimp only at hSw); go_simp; try with_reducible rfl
        refine wpAnyH_ready (rs := [9]) (by kernel_rfl) (by simp) (AllReadyH.cons rfl (fun K hK => ?_) (AllReadyH.nil))
        · go_simp
          refine hK.out _ _ trivial (fun hHeld => ?_)
          clear hK K
          refine wpAnyH_done (by kernel_rfl) ?_ _
          go_wp2
          obtain ⟨hm3, hm4, hm5, hm6⟩ := HM.out
          go_roundw
          case rel => exact ⟨k + m, by rw [IntWalk.i64_in _ ⟨by omega, by omega⟩]; go_num, by omega, hm4, HOUT.out.1, HOUT.out.2⟩
          case measure => rw [IntWalk.i64_in _ ⟨by omega, by omega⟩]; simp [intOf]; omega
    · have e1 : ((k : Int) < (n : Int)) = False := eq_false (by omega)
      obtain rfl : k = n := by omega
      have HU := hide hu
      clear hu
      go_wp2
      go_ret
      refine ⟨by rw [hB]; exact hBW, B, by omega, rfl, ?_⟩
      obtain ⟨cur, hg, hl, hx⟩ := HU.out
      rw [hg]
      have : cur = intsI (List.replicate k x) := by
        apply List.ext_getElem?
        intro j
        by_cases hj : j < k
        · rw [hx j hj]; simp [hj]
        · rw [List.getElem?_eq_none (by omega), List.getElem?_eq_none (by simp; omega)]
      rw [this]

end Go.Proofs.Ytonoeodlchkiaaa
