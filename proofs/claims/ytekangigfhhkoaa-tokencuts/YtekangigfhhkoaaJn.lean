/-
  Tokens in a row, and their texts in one (layer 9): the contract of Join.
-/
import Derived.Test.YtekangigfhhkoaaLex
import Derived.Test.YtekangigfhhkoaaBld
namespace Go.Proofs.Ytekangigfhhkoaa
open Go.ChangeShapes Go.WideShapes Go.ChangeAt Go.RowKit Go.Shelf

attribute [local go_sem] Oper.semAt_some

/-- A token of any numbers. -/
structure Tz where
  k : Int
  t : List UInt8
  a : Int
abbrev zcells (x : Tz) : List Value := [.int .i64 x.k, .string (bs x.t), .int .i64 x.a]
def z0 : Tz := ⟨0, [], 0⟩
abbrev Tok.z (x : Tok) : Tz := ⟨(x.k : Int), x.t, (x.a : Int)⟩
theorem z_at (ts : List Tok) (k : Nat) (h : k < ts.length) : (ts.map Tok.z).getD k z0 = (ts.getD k tok0).z := by
  rw [List.getD_eq_getElem?_getD, List.getD_eq_getElem?_getD, List.getElem?_map, List.getElem?_eq_getElem h]; rfl
/-- A row of tokens that can be read. -/
def TokRow (W : World) (v : Value) (zs : List Tz) : Prop := ∃ (av : Option Addr) (cap blk off : Nat), v = .slice av zs.length cap ∧ (0 < zs.length → av = some ⟨blk, off, none⟩ ∧ blk < W.heap.size) ∧ ∀ k f, k < zs.length → f < 3 → W.cell? ⟨blk, off + k * 3 + f, none⟩ = (zcells (zs.getD k z0))[f]?
theorem TokRow.below {W W' : World} {v : Value} {zs : List Tz} (h : TokRow W v zs) (hb : Below W.heap.size W W') : TokRow W' v zs := by
  obtain ⟨av, cap, blk, off, h1, h2, h3⟩ := h
  exact ⟨av, cap, blk, off, h1, fun h0 => ⟨(h2 h0).1, Nat.lt_of_lt_of_le (h2 h0).2 hb.size⟩, fun k f hk hf => (hb.cell (p := ⟨blk, off + k * 3 + f, none⟩) (h2 (by omega)).2).trans (h3 k f hk hf)⟩
theorem TokRow.of_owns {W : World} {base : Nat} {v : Value} {ts : List Tok} (h : W.ownsRow base 30 3 v ts.length (ts.flatMap tcells)) : TokRow W v (ts.map Tok.z) := by
  obtain ⟨av, cap, rfl, _⟩ := owns_shape h
  by_cases h0 : 0 < ts.length
  · obtain ⟨gb, c', e, _, hlt⟩ := h.form h0
    injection e with e1 e2 e3
    subst e1
    refine ⟨_, cap, gb, 0, by rw [List.length_map], fun _ => ⟨rfl, hlt⟩, fun k f hk hf => ?_⟩
    rw [List.length_map] at hk
    rw [Nat.zero_add, z_at ts k hk, h.cellAt (k * 3 + f) (by omega), flat_get ts k f hk hf]
  · exact ⟨av, cap, 0, 0, by rw [List.length_map], fun h => by rw [List.length_map] at h; exact absurd h h0, fun k f hk => by rw [List.length_map] at hk; omega⟩

/-- The texts behind the first one, each with a blank ahead. -/
def jrest : List Tz → List UInt8
  | [] => []
  | x :: r => 32 :: (x.t ++ jrest r)
def joinL : List Tz → List UInt8
  | [] => []
  | x :: r => x.t ++ jrest r
/-- What is left to be written behind k tokens. -/
def jleft (k : Nat) (zs : List Tz) : List UInt8 := if k = 0 then joinL zs else jrest (zs.drop k)
theorem jleft_at (zs : List Tz) (k : Nat) (h : k < zs.length) : jleft k zs = (if k = 0 then [] else [32]) ++ (zs.getD k z0).t ++ jleft (k + 1) zs := by
  unfold jleft
  rw [if_neg (Nat.succ_ne_zero k)]
  have e : zs.drop k = zs.getD k z0 :: zs.drop (k + 1) := by
    rw [List.drop_eq_getElem_cons h, List.getD_eq_getElem?_getD, List.getElem?_eq_getElem h]; rfl
  by_cases hk : k = 0
  · subst hk
    rw [if_pos rfl, if_pos rfl]
    rw [List.drop_zero] at e
    rw [e]; simp [joinL]
  · rw [if_neg hk, if_neg hk, e]
    simp [jrest]

theorem Bld.kept {B b : Nat} {l : List UInt8} {w w' : World} {row : Option Nat} (h : Bld B b l w) (hg : w.grownBy w' row) (hb : ∀ r, row = some r → ∃ o, w.heap[r]? = some o ∧ o.isCells = false) : Bld B b l w' := by
  have key : ∀ p, Lib.BuilderAtF 48 5 B b p (Lib.byteCells l) w → Lib.BuilderAtF 48 5 B b p (Lib.byteCells l) w' := fun p ⟨hB, v, hbk, hown, hne⟩ => by
    refine ⟨hB, v, (hg.block b (Array.getElem?_eq_some_iff.1 hbk).1 (fun e => ?_)).trans hbk, hown.kept hg ?_, hne⟩
    · obtain ⟨o, ho, hc⟩ := hb b e.symm
      rw [hbk] at ho; cases ho; cases hc
    · cases hv : v.ownBlock with
      | none => exact .inl rfl
      | some r =>
        refine .inr fun e => ?_
        obtain ⟨o, ho, hc⟩ := hb r e.symm
        obtain ⟨c, fz, hk⟩ := Lib.ownsRowF_kind hown r hv
        rw [hk] at ho; cases ho; cases hc
  exact h.elim (fun h => .inl (key _ h)) (fun h => .inr (key _ h))
theorem grown_below {w w' : World} (h : Below w.heap.size w w') : w.grownBy w' none := ⟨h.os, h.tape, h.output, h.size, fun k hk _ => h.block k hk⟩
theorem Bld.later {B b : Nat} {l : List UInt8} {w w' : World} (h : Bld B b l w) (hb : Below w.heap.size w w') : Bld B b l w' := Bld.kept h (grown_below hb) (fun r e => by cases e)

theorem bld_lt {B b : Nat} {l : List UInt8} {w : World} (h : Bld B b l w) : b < w.heap.size := by
  rcases h with ⟨_, v, h1, _⟩ | ⟨_, v, h1, _⟩ <;> exact (Array.getElem?_eq_some_iff.1 h1).1
set_option maxRecDepth 100000 in
set_option maxHeartbeats 2000000 in
theorem join_is (v : Value) (zs : List Tz) (w : World) (hr : TokRow w v zs) (hn : zs.length ≤ 1000000) (hl : (joinL zs).length ≤ 100000000) :
    Calls Try.prog 19 #[v] w fun e w' => e = .returned (.string (bs (joinL zs))) ∧ Below w.heap.size w w' := by
  obtain ⟨av, cap, blk, off, rfl, ha, hc⟩ := hr
  have HC := hide hc
  have HA := hide ha
  have hbld : Bld w.heap.size w.heap.size [] (w.alloc (.cells #[.pointer none, .slice none 0 0] 48)) := .inl ⟨Nat.le_refl _, .slice none 0 0, World.alloc_heap_new w _, World.ownsRowF_nil _ _ _ _, by simp [Value.ownBlock]⟩
  have hbe := bel_new w (.cells #[.pointer none, .slice none 0 0] 48)
  clear hc ha
  generalize hln : zs.length = n at *
  have HLN := hide hln
  clear hln
  go_enter Try.func19, Try.ntmps19
  go_wp2
  generalize (w.alloc (.cells #[.pointer none, .slice none 0 0] 48)) = w1 at *
  go_loopw [8] (fun i wr => ∃ (k : Nat) (l : List UInt8), i = .int .i64 (k : Int) ∧ k ≤ n ∧ l ++ jleft k zs = joinL zs ∧ Bld w.heap.size w.heap.size l wr ∧ Below w.heap.size w wr) (fun i _ => n - (RowKit.intOf i).toNat)
  case atStart => exact ⟨0, [], rfl, Nat.zero_le _, rfl, hbld, hbe⟩
  case round =>
    clear hbld hbe
    obtain ⟨k, l, rfl, hk, hj, hbl, hbr⟩ := hrel
    by_cases hlt : k < n
    · have e1 : ((k : Int) < (n : Int)) = True := eq_true (by omega)
      obtain ⟨rfl, hblk⟩ := HA.out (by omega)
      have hx := fun f hf => (hbr.cell (p := ⟨blk, off + k * 3 + f, none⟩) hblk).trans (HC.out k f hlt hf)
      rw [jleft_at zs k (by rw [HLN.out]; exact hlt)] at hj
      generalize zs.getD k z0 = x at *
      have x0 : wr.cell? ⟨blk, off + k * 3, none⟩ = some (.int .i64 x.k) := hx 0 (by decide)
      have x1 : wr.cell? ⟨blk, off + k * 3 + 1, none⟩ = some (.string (bs x.t)) := hx 1 (by decide)
      have x2 : wr.cell? ⟨blk, off + k * 3 + 2, none⟩ = some (.int .i64 x.a) := hx 2 (by decide)
      clear hx
      have hbn : Below wr.heap.size wr (wr.alloc (.cells #[.int .i64 x.k, .string (bs x.t), .int .i64 x.a] 30)) := bel_new _ _
      have hbox : (wr.alloc (.cells #[.int .i64 x.k, .string (bs x.t), .int .i64 x.a] 30)).heap[wr.heap.size]? = some (.cells #[.int .i64 x.k, .string (bs x.t), .int .i64 x.a] 30 (0, 0)) := World.alloc_heap_new wr _
      have hbl2 := Bld.later hbl hbn
      have hbr2 : Below w.heap.size w (wr.alloc (.cells #[.int .i64 x.k, .string (bs x.t), .int .i64 x.a] 30)) := hbr.trans (hbn.mono hbr.size)
      have hlen : l.length + 1 + x.t.length ≤ 100000001 := by
        have := congrArg List.length hj
        simp only [List.length_append] at this
        omega
      have hne : wr.heap.size ≠ w.heap.size := by have := bld_lt hbl; omega
      by_cases hk0 : k = 0
      · subst hk0
        simp only [Nat.zero_mul, Nat.add_zero] at x0 x1 x2
        have e2 : ((0 : Int) < ((0 : Nat) : Int)) = False := by simp
        have HJ : Hid (l ++ x.t ++ jleft (0 + 1) zs = joinL zs) := by rw [Hid, ← hj]; simp
        have HB := hide (And.intro hbl2 hbr2)
        clear hj hbl hbr hbl2 hbr2 hbn
        go_wp2_with fail
        refine (writeString_any w.heap.size w.heap.size l (bs x.t) _ HB.out.1 (by rw [bs_size]; omega) HB.out.2.size).mono ?_
        rintro e w4 ⟨rfl, hbl4, hw4⟩
        rw [bs_data] at hbl4
        have HF := hide (And.intro hbl4 (HB.out.2.trans hw4.below))
        clear hbl4 hw4 HB hbox
        go_wp2
        go_roundw
        case rel => exact ⟨0 + 1, _, by go_num, hlt, HJ.out, HF.out.1, HF.out.2⟩
        case measure => simp [RowKit.intOf]; omega
      · have e2 : ((0 : Int) < (k : Int)) = True := eq_true (by omega)
        have HJ : Hid (l ++ [32] ++ x.t ++ jleft (k + 1) zs = joinL zs) := by rw [Hid, ← hj, if_neg hk0]; simp
        have HB := hide (And.intro hbl2 hbr2)
        have HBX := hide hbox
        clear hj hbl hbr hbl2 hbr2 hbn hbox
        go_wp2_with fail
        refine (writeByte_any w.heap.size w.heap.size l 32 _ HB.out.1 (by omega) HB.out.2.size).mono ?_
        rintro e w3 ⟨rfl, hbl3, hw3⟩
        have hb3 := hw3.others wr.heap.size _ HBX.out (by intro e; injection e with e; exact hne e) (fun c fz e => by cases e)
        have x1' : w3.cell? ⟨wr.heap.size, 1, none⟩ = some (.string (bs x.t)) := cell_of hb3 1
        have HB3 := hide (And.intro hbl3 (HB.out.2.trans hw3.below))
        clear hbl3 hw3 hb3 HB HBX
        go_wp2_with fail
        refine (writeString_any w.heap.size w.heap.size _ (bs x.t) _ HB3.out.1 (by rw [bs_size, List.length_append]; simp; omega) HB3.out.2.size).mono ?_
        rintro e w4 ⟨rfl, hbl4, hw4⟩
        rw [bs_data] at hbl4
        have HF := hide (And.intro hbl4 (HB3.out.2.trans hw4.below))
        clear hbl4 hw4 HB3
        go_wp2
        go_roundw
        case rel => exact ⟨k + 1, _, by go_num, hlt, HJ.out, HF.out.1, HF.out.2⟩
        case measure => simp [RowKit.intOf]; omega
    · have hkn : k = n := by omega
      have e1 : ((k : Int) < (n : Int)) = False := eq_false (by omega)
      have hjl : l = joinL zs := by
        rw [← hj]
        have : jleft k zs = [] := by
          unfold jleft
          by_cases h0 : k = 0
          · rw [if_pos h0]; rw [hkn] at h0; rw [h0] at HLN
            rw [List.length_eq_zero_iff.1 HLN.out]; rfl
          · rw [if_neg h0, List.drop_of_length_le (by rw [HLN.out]; omega)]; rfl
        rw [this, List.append_nil]
      subst hjl
      have HS := hide (Try.Builder_String_any_k w.heap.size w.heap.size _ wr hbl hbr.size)
      have HB := hide hbr
      clear hj hbl hbr
      go_wp2_with fail
      refine HS.out.mono ?_
      rintro e w' ⟨rfl, _, hb2, _⟩
      have HB2 := hide hb2
      clear hb2
      go_wp2
      go_ret
      exact ⟨rfl, HB.out.trans HB2.out⟩

end Go.Proofs.Ytekangigfhhkoaa
