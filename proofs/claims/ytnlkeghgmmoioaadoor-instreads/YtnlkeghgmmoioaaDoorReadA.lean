/-
  The law InstReads (layer 2), by walks over the translation.
-/
import Derived.Test.YtnlkeghgmmoioaaDoorRefK
import Derived.Test.YtnlkeghgmmoioaaDoorRowB
namespace Go.Proofs.YtnlkeghgmmoioaaDoor
open Go.ChangeShapes Go.WideShapes Go.ChangeAt Go.RowKit

theorem IsB.decode {W : World} {v : Value} {l : List UInt8} (h : IsB W v l) : Calls Tryd.prog 23 #[v] W fun e w' => e = .returned (decR l) ∧ Below W.heap.size W w' := by
  obtain ⟨av, cap, rfl, h⟩ := h
  by_cases h0 : 0 < l.length
  · obtain ⟨blk, off, rfl, h1, h2⟩ := h h0
    exact decode_any blk off cap l W h1 h2
  · have hl : l = [] := List.length_eq_zero_iff.1 (by omega)
    subst hl
    exact decode_short av 0 cap (by decide) W
theorem IsB.refdecode {W : World} {v : Value} {l : List UInt8} (h : IsB W v l) : Calls Tryd.prog 24 #[v] W fun e w' => e = .returned (decR l) ∧ Below W.heap.size W w' := by
  obtain ⟨av, cap, rfl, h⟩ := h
  by_cases h0 : 0 < l.length
  · obtain ⟨blk, off, rfl, h1, h2⟩ := h h0
    exact refdecode_any blk off cap l W h1 h2
  · have hl : l = [] := List.length_eq_zero_iff.1 (by omega)
    subst hl
    exact refdecode_short av 0 cap (by decide) W
theorem IsB.conv {W : World} {v : Value} {l : List UInt8} (h : IsB W v l) : (convert 25 9 v).run Tryd.prog W = .ok (.string (bs l)) W := by
  obtain ⟨av, cap, rfl, h⟩ := h
  by_cases h0 : 0 < l.length
  · obtain ⟨blk, off, rfl, h1, h2⟩ := h h0
    exact h2.conv
  · have hl : l = [] := List.length_eq_zero_iff.1 (by omega)
    subst hl
    exact BArg.conv (.inl ⟨rfl, av, cap, rfl⟩)
theorem decR_form (l : List UInt8) : ∃ (x : Ins) (e : Int), decR l = .tuple #[.agg #[.int .i64 x.o, .int .i64 x.a, .int .i64 x.b, .int .i64 x.c, .int .i64 x.i], .int .i64 e] := by
  rw [decR_is]
  cases decI l with
  | none => exact ⟨⟨0, 0, 0, 0, 0⟩, 2, rfl⟩
  | some x => exact ⟨x, 0, rfl⟩
theorem DecAns.form {b : List UInt8} {w : World} {e : Ending} {w' : World} (h : DecAns b w e w') : ∃ v z xs, e = .returned (.tuple #[v, .int .i64 z]) ∧ IsRow w' v xs ∧ ((z = 0 ∧ DecAll b xs) ∨ (z = 2 ∧ xs = [] ∧ DecNo b)) := by
  rcases h.2 with ⟨xs, v, h1, h2, h3⟩ | ⟨h1, h2⟩
  · exact ⟨v, 0, xs, h2, h3, .inl ⟨rfl, h1⟩⟩
  · exact ⟨_, 2, [], h2, ⟨none, 0, rfl, fun h => absurd h (Nat.lt_irrefl 0)⟩, .inr ⟨rfl, rfl, h1⟩⟩
theorem dec_agree {b : List UInt8} {z z' : Int} {xs ys : List Ins} (h : (z = 0 ∧ DecAll b xs) ∨ (z = 2 ∧ xs = [] ∧ DecNo b)) (k : (z' = 0 ∧ DecAll b ys) ∨ (z' = 2 ∧ ys = [] ∧ DecNo b)) : z = z' ∧ xs = ys := by
  rcases h with ⟨rfl, h⟩ | ⟨rfl, rfl, h⟩ <;> rcases k with ⟨rfl, k⟩ | ⟨rfl, rfl, k⟩
  · exact ⟨rfl, h.uniq k⟩
  · exact (h.not k).elim
  · exact (k.not h).elim
  · exact ⟨rfl, rfl⟩
theorem dec_short {b : List UInt8} {z : Int} {xs : List Ins} (h : (z = 0 ∧ DecAll b xs) ∨ (z = 2 ∧ xs = [] ∧ DecNo b)) : xs.length ≤ b.length + 8 := by
  rcases h with ⟨_, _, _, h⟩ | ⟨_, rfl, _⟩
  · omega
  · exact Nat.zero_le _
/-- Bytes that came in, opened, with their room. -/
theorem open_room {H : Type} {enc : TypeId × Value → H} {w : World} {sp : Nat → Bool} {v : Value} {d : DataW H} {p : List MemPlace} {r : Reach} {b0 : Nat} (hsp : ∀ b, sp b = true)
    (hv : Value.okWide Tryd.prog w r b0 25 v) (h : DataW.Trod enc Tryd.prog w 0 sp true 25 v d p) (hlt : ∀ x ∈ p, x.block < w.heap.size) :
    ∃ (l : List UInt8) (av : Option Addr) (cap : Nat), v = .slice av l.length cap ∧ l.length ≤ cap ∧ IsB w v l := by
  obtain ⟨l, hba⟩ := open_bytes hsp hv h hlt
  obtain ⟨fuel, hf⟩ := h
  have hB : IsB w v l := by
    rcases hba with ⟨rfl, av, cap, rfl⟩ | ⟨blk, off, cap, rfl, h2, h3⟩
    · exact ⟨av, cap, rfl, fun h => absurd h (Nat.lt_irrefl 0)⟩
    · exact ⟨_, cap, rfl, fun _ => ⟨blk, off, rfl, h2, h3⟩⟩
  obtain ⟨av, cap, rfl, _⟩ := id hB
  refine ⟨l, av, cap, rfl, ?_, hB⟩
  rcases open_ints Tryd.underlying25 Tryd.underlying5 cells5 hf with ⟨hcs, _⟩ | ⟨a, len', cap', zs, hcs, _, hl, _⟩
  · simp only [Value.cells, List.cons.injEq, Value.slice.injEq, and_true] at hcs
    obtain ⟨_, h1, h2⟩ := hcs
    omega
  · simp only [Value.cells, List.cons.injEq, Value.slice.injEq, and_true] at hcs
    obtain ⟨_, h1, h2⟩ := hcs
    omega

set_option maxRecDepth 100000 in
set_option maxHeartbeats 2000000 in
theorem reads_walk (av : Option Addr) (cap : Nat) (l : List UInt8) (w : World) (hT : Tabs w) (hcap : l.length ≤ cap) (hb : IsB w (.slice av l.length cap) l) :
    Calls Tryd.prog 4 #[.slice av l.length cap] w fun e w' => e = .returned (.bool true) ∧ Below w.heap.size w w' := by
  generalize hn : l.length = n at hcap hb
  by_cases hbig : 1024 < n
  · have e1 : ((1024 : Int) < n) = True := by simp; omega
    go_enter Tryd.func4, Tryd.ntmps4
    go_wp2_with fail
    refine (small_any _ hT).mono ?_; rintro e w1 ⟨rfl, hb1⟩
    go_wp2
    go_ret
    exact ⟨rfl, hb1⟩
  have e1 : ((1024 : Int) < n) = False := by simp; omega
  have refAll : ∀ W, IsB W (.slice av n cap) l → Calls Tryd.prog 26 #[.slice av n cap] W (DecAns l W) := fun W h => by
    obtain ⟨av', cap', e, h⟩ := h
    injection e with e1 e2 e3
    subst e1
    exact refDecodeAll_any av n cap l W hn (by omega) hcap (fun h0 => h (by omega))
  have RA := (show Hid (∀ W, IsB W (.slice av n cap) l → Calls Tryd.prog 26 #[.slice av n cap] W (DecAns l W)) from refAll)
  clear refAll
  go_enter Tryd.func4, Tryd.ntmps4
  go_wp2_with fail
  refine (small_any _ hT).mono ?_; rintro e w1 ⟨rfl, hb1⟩
  have hbA := hb.later hb1
  have ow0 := owns_empty w1 w1.heap.size 5 1 (Nat.le_refl _)
  generalize hV1 : w1.alloc (.cells #[] 5) = W1 at ow0
  have hbW1 : Below w1.heap.size w1 W1 := by rw [← hV1]; exact (Below.refl _ _).alloc (Nat.le_refl _) _
  obtain ⟨p3, w2, ap, ow1, bw1⟩ := append_b W1 25 w1.heap.size _ _ _ ow0 _ _ (hbA.later hbW1) (by omega) hbW1.size
  have hb12 : Below w1.heap.size w1 w2 := hbW1.trans bw1
  rw [List.nil_append, Nat.zero_add] at ow1
  obtain ⟨iv, ic, rfl, hic, him, hib⟩ := owns_isB ow1
  have hin : IsB w2 (.slice iv l.length ic) l := ⟨iv, ic, rfl, hib⟩
  rw [hn] at ap hin hic hib
  clear ow0 ow1 hib
  subst hV1
  obtain ⟨hB2, hz2⟩ := bel_on hb1 hb12
  have hb2 := hbA.later hb12
  obtain ⟨x, ex, hdr⟩ := decR_form l
  go_wp2_with (at_builtin; refine wpList_append_run rfl (.tmp 18) (.tmp 19) 25 rfl rfl rfl ap ?_)
  refine hin.decode.mono ?_; rintro e w3 ⟨rfl, hb3⟩
  rw [hdr]
  obtain ⟨hB3, hz3⟩ := bel_on hB2 hb3
  have bx3 := XBox.new w3 x.o x.a x.b x.c x.i
  have b3 := hb2.later hb3
  have i3 := hin.later hb3
  clear ap hb12 bw1
  go_wp2_with fail
  generalize hV3 : w3.alloc (.cells #[.int .i64 x.o, .int .i64 x.a, .int .i64 x.b, .int .i64 x.c, .int .i64 x.i] 23) = W3 at bx3
  have hbW3 : Below w3.heap.size w3 W3 := by rw [← hV3]; exact (Below.refl _ _).alloc (Nat.le_refl _) _
  clear hV3
  refine (b3.later hbW3).refdecode.mono ?_; rintro e w4 ⟨rfl, hb4⟩
  rw [hdr]
  have hb34 : Below w3.heap.size w3 w4 := hbW3.trans (hb4.mono hbW3.size)
  obtain ⟨hB4, hz4⟩ := bel_on hB3 hb34
  have bx4 := bx3.on hb4
  have by4 := XBox.new w4 x.o x.a x.b x.c x.i
  have b4 := b3.later hb34
  have i4 := i3.later hb34
  go_wp2_with fail
  generalize hV4 : w4.alloc (.cells #[.int .i64 x.o, .int .i64 x.a, .int .i64 x.b, .int .i64 x.c, .int .i64 x.i] 23) = W4 at by4
  have hbW4 : Below w4.heap.size w4 W4 := by rw [← hV4]; exact (Below.refl _ _).alloc (Nat.le_refl _) _
  clear hV4
  have bx5 := bx4.on hbW4
  have b5 := b4.later hbW4
  have i5 := i4.later hbW4
  obtain ⟨hB5, hz5⟩ := bel_on hB4 hbW4
  have hall : Calls Tryd.prog 25 #[.slice iv n ic] W4 (DecAns l W4) := by
    obtain ⟨iv', ic', e, h⟩ := id i5
    injection e with e1 e2 e3
    subst e1
    exact decodeAll_any iv n ic l W4 hn (by omega) hic him (fun h0 => h (by omega))
  refine hall.mono ?_; intro e w6 hans
  have hb6 := hans.1
  obtain ⟨v6, z6, xs, rfl, r6, k6⟩ := hans.form
  obtain ⟨hB6, hz6⟩ := bel_on hB5 hb6
  have bx6 := bx5.on hb6
  have by6 := by4.on hb6
  have b6 := b5.later hb6
  have i6 := i5.later hb6
  clear hall
  go_wp2_with fail
  refine (RA.out w6 b6).mono ?_; intro e w7 hans7
  have hb7 := hans7.1
  obtain ⟨v7, z7, ys, rfl, r7, k7⟩ := hans7.form
  obtain ⟨hB7, hz7⟩ := bel_on hB6 hb7
  obtain ⟨rfl, rfl⟩ := dec_agree k6 k7
  have hshort := dec_short k6
  have bx7 := bx6.on hb7
  have by7 := by6.on hb7
  have b7 := b6.later hb7
  have i7 := i6.later hb7
  have hsame := same_rows (by omega) (r6.later hb7) r7
  obtain ⟨c0, c1, c2, c3, c4, _⟩ := bx7
  obtain ⟨d0, d1, d2, d3, d4, _⟩ := by7
  have heq := eql_same x.o x.a x.b x.c x.i
  clear bx3 bx4 bx5 bx6 by4 by6 k6 k7 hans hans7
  go_wp2_with fail
  refine hsame.mono ?_; rintro e w8 ⟨rfl, hb8⟩
  have q1 := (i7.later hb8).conv
  have q2 := (b7.later hb8).conv
  generalize bs l = sl at q1 q2
  obtain ⟨hB8, hz8⟩ := bel_on hB7 hb8
  go_wp2_with fail
  go_ret
  exact ⟨rfl, hB8⟩

end Go.Proofs.YtnlkeghgmmoioaaDoor
