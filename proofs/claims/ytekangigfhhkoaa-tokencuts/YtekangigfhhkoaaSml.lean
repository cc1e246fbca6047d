/-
  The small case of layer 9's laws.
-/
import Derived.Test.YtekangigfhhkoaaSam
namespace Go.Proofs.Ytekangigfhhkoaa
open Go.ChangeShapes Go.WideShapes Go.ChangeAt Go.RowKit Go.Shelf

theorem LexAns.is_good {s : List UInt8} {base : Nat} {r : Value} {W : World} {ts : List Tok} (h : LexAns s base r W) (he : lexS s = (ts, none)) : ∃ v, r = .tuple #[v, .int .i64 (s.length : Int), .int .i64 0] ∧ W.ownsRow base 30 3 v ts.length (ts.flatMap tcells) := by
  cases h with
  | good ts' v _ h1 h2 => rw [he] at h1; injection h1 with h1 _; subst h1; exact ⟨v, rfl, h2⟩
  | bad ts' q _ h1 => rw [he] at h1; injection h1 with _ h1; cases h1
theorem LexAns.is_bad {s : List UInt8} {base : Nat} {r : Value} {W : World} {ts : List Tok} {q : Nat} (h : LexAns s base r W) (he : lexS s = (ts, some q)) : r = .tuple #[.slice none 0 0, .int .i64 (q : Int), .int .i64 2] := by
  cases h with
  | good ts' v _ h1 h2 => rw [he] at h1; injection h1 with _ h1; cases h1
  | bad ts' q' _ h1 => rw [he] at h1; injection h1 with _ h1; injection h1 with h1; subst h1; rfl
theorem flatz_get : ∀ (l : List Tz) (j f : Nat), j < l.length → f < 3 → (l.flatMap zcells)[j * 3 + f]? = (zcells (l.getD j z0))[f]?
  | x :: r, 0, f, _, hf => by rw [List.flatMap_cons, List.getElem?_append_left (by simp; omega)]; simp
  | x :: r, j + 1, f, hj, hf => by
    rw [List.flatMap_cons, List.getElem?_append_right (by simp; omega)]
    have := flatz_get r j f (by simpa using hj) hf
    rw [show (j + 1) * 3 + f - (zcells x).length = j * 3 + f by simp; omega, this]; simp
theorem TokRow.of_block {W : World} {B : Nat} {zs : List Tz} {n : Nat} (h : W.heap[B]? = some (.cells (zs.flatMap zcells).toArray 30 (0, 0))) (hn : n = zs.length) : TokRow W (.slice (some ⟨B, 0, none⟩) n n) zs := by
  subst hn
  refine ⟨_, _, B, 0, rfl, fun _ => ⟨rfl, lt_of h⟩, fun k f hk hf => ?_⟩
  rw [cell_of h, Nat.zero_add, List.getElem?_toArray, flatz_get zs k f hk hf]
abbrev smallT : List Tok := [⟨1, [97, 49], 0⟩, ⟨3, [60, 61], 2⟩, ⟨2, [50, 51], 4⟩, ⟨3, [59], 6⟩]
set_option maxRecDepth 100000 in
set_option maxHeartbeats 2000000 in
theorem small_is (w : World) : Calls Try.prog 9 #[] w fun e w' => e = .returned (.bool true) ∧ Below w.heap.size w w' := by
  go_enter Try.func9, Try.ntmps9
  go_wp2_with fail
  refine (lex_s (bs [97, 49, 60, 61, 50, 51, 59, 32, 47, 47, 32, 120]) (by decide) w).mono ?_
  rintro e w1 ⟨r, rfl, ha, hb1⟩
  obtain ⟨v, hr, hown⟩ := ha.is_good lexS_small
  have hr' : r = .tuple #[v, .int .i64 12, .int .i64 0] := hr
  subst hr'
  clear hr
  have hr1 := TokRow.of_owns hown
  clear ha hown
  go_wp2_with fail
  refine (lex_s (bs [97, 32, 36]) (by decide) w1).mono ?_
  rintro e w2 ⟨r, rfl, ha, hb2⟩
  obtain rfl := ha.is_bad lexS_bad
  have hr2 := hr1.below hb2
  have hB2 := bel_two hb1 hb2
  have HR2 := hide hr2
  have HB2 := hide hB2
  clear ha hr1 hb1 hb2 hr2 hB2
  go_wp2_with fail
  have HN := number_s (bs [50, 51]) (by decide) w2
  rw [show num (bs [50, 51]).data.toList = some 23 by kernel_rfl, numV_some] at HN
  refine HN.mono ?_
  rintro e w3 ⟨rfl, rfl⟩
  clear HN
  go_wp2_with fail
  have hbn := bel_new w3 (.cells #[.int .i64 1, .string ⟨#[97, 49]⟩, .int .i64 0, .int .i64 3, .string ⟨#[60, 61]⟩, .int .i64 2, .int .i64 2, .string ⟨#[50, 51]⟩, .int .i64 4, .int .i64 3, .string ⟨#[59]⟩, .int .i64 6] 30)
  have hrb : TokRow (w3.alloc (.cells #[.int .i64 1, .string ⟨#[97, 49]⟩, .int .i64 0, .int .i64 3, .string ⟨#[60, 61]⟩, .int .i64 2, .int .i64 2, .string ⟨#[50, 51]⟩, .int .i64 4, .int .i64 3, .string ⟨#[59]⟩, .int .i64 6] 30)) (.slice (some ⟨w3.heap.size, 0, none⟩) 4 4) (smallT.map Tok.z) := TokRow.of_block (World.alloc_heap_new w3 _) rfl
  refine (same_is (zs := smallT.map Tok.z) (by decide) (HR2.out.below hbn) hrb).mono ?_
  rintro e w4 ⟨rfl, hq4⟩
  have hr4 := (HR2.out.below hbn).below (bel_q hq4)
  have hB4 := bel_two HB2.out (bel_two hbn (bel_q hq4))
  have HR4 := hide hr4
  have HB4 := hide hB4
  clear HR2 HB2 hbn hrb hq4 hr4 hB4
  go_wp2_with fail
  have H1 := name_s (bs [95, 97]) (by decide) w4
  rw [show nameB (bs [95, 97]).data.toList = true by kernel_rfl] at H1
  refine H1.mono ?_
  rintro e w5 ⟨rfl, rfl⟩
  clear H1
  go_wp2_with fail
  have H1 := sign_s (bs [62]) w5
  rw [show sign (bs [62]).data.toList = false by kernel_rfl] at H1
  refine H1.mono ?_
  rintro e w6 ⟨rfl, rfl⟩
  clear H1
  go_wp2_with fail
  have H1 := join_is v (smallT.map Tok.z) w6 HR4.out (by decide) (by decide)
  rw [show joinL (smallT.map Tok.z) = [97, 49, 32, 60, 61, 32, 50, 51, 32, 59] by kernel_rfl] at H1
  refine H1.mono ?_
  rintro e w7 ⟨rfl, hb7⟩
  have HF := hide (bel_two HB4.out hb7)
  have hbt : (bs [97, 49, 32, 60, 61, 32, 50, 51, 32, 59]).toList = [97, 49, 32, 60, 61, 32, 50, 51, 32, 59] := bs_toList _
  clear H1 hb7
  go_wp2
  go_ret
  exact ⟨rfl, HF.out⟩

end Go.Proofs.Ytekangigfhhkoaa
