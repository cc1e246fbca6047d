/-
  Text of package asm (layer 5): its contract.
-/
import Derived.Test.YtbfmadcppnfgpaaGreatDoorLnText
import Derived.Test.YtbfmadcppnfgpaaGreatDoorLab
import Derived.Test.YtbfmadcppnfgpaaGreatDoorBuild
namespace Go.Proofs.YtbfmadcppnfgpaaGreatDoor
open Go.ChangeShapes Go.WideShapes Go.ChangeAt Go.RowKit Go.Shelf Go.Maps

attribute [local go_sem] Oper.semAt_some

/-- The text of lines. -/
def textsL (ls : List Ln) : List UInt8 := ls.flatMap fun x => x.text ++ [10]
theorem textsL_succ (ls : List Ln) (k : Nat) (h : k < ls.length) : textsL (ls.take (k + 1)) = textsL (ls.take k) ++ (ls[k]'h).text ++ [10] := by
  unfold textsL
  rw [List.take_succ_eq_append_getElem h, List.flatMap_append]
  simp
theorem textsL_len (ls : List Ln) (hL : ∀ x ∈ ls, Fits x.L) (hT : ∀ x ∈ ls, Fits x.t) : (textsL ls).length ≤ ls.length * 201 := by
  induction ls with
  | nil => simp [textsL]
  | cons x r ih =>
    have l1 := lnText_len x (hL x (by simp)) (hT x (by simp))
    have l2 := ih (fun y hy => hL y (by simp [hy])) (fun y hy => hT y (by simp [hy]))
    unfold textsL at l2 ⊢
    rw [List.flatMap_cons, List.length_append, List.length_append, List.length_cons]
    simp only [List.length_cons, List.length_nil]; omega

theorem Bld.kept {B b : Nat} {l : List UInt8} {w w' : World} {row : Option Nat} (h : Bld B b l w) (hg : w.grownBy w' row) (hb : ∀ r, row = some r → ∃ o, w.heap[r]? = some o ∧ o.isCells = false) : Bld B b l w' := by
  have key : ∀ p, Lib.BuilderAtF 78 5 B b p (Lib.byteCells l) w → Lib.BuilderAtF 78 5 B b p (Lib.byteCells l) w' := fun p ⟨hB, v, hbk, hown, hne⟩ => by
    refine ⟨hB, v, (hg.block b (Array.getElem?_eq_some_iff.1 hbk).1 (fun e => ?_)).trans hbk, hown.kept hg ?_, hne⟩
    · obtain ⟨o, ho, hc⟩ := hb b e.symm
      rw [hbk] at ho; cases ho; cases hc
    · cases hv : v.ownBlock with
      | none => exact .inl rfl
      | some r =>
        refine .inr fun e => ?_
        obtain ⟨o, ho, hc⟩ := hb r e.symm
        obtain ⟨c, fz, hk⟩ := Lib.ownsRowF_kind hown r hv
        rw [hk] at ho; cases ho; cases hc
  exact h.elim (fun h => .inl (key _ h)) (fun h => .inr (key _ h))
theorem grown_below {w w' : World} (h : Below w.heap.size w w') : w.grownBy w' none := ⟨h.os, h.tape, h.output, h.size, fun k hk _ => h.block k hk⟩
theorem grown_put (W : World) (r : Nat) (o : Obj) : W.grownBy (W.putObj r o) (some r) := ⟨rfl, rfl, rfl, by simp [World.putObj], fun k _ hne => World.putObj_heap_other (by intro e; subst e; exact hne rfl)⟩
theorem Bld.later {B b : Nat} {l : List UInt8} {w w' : World} (h : Bld B b l w) (hb : Below w.heap.size w w') : Bld B b l w' := Bld.kept h (grown_below hb) (fun r e => by cases e)
theorem Wrote.keeps {B b K : Nat} {w w' : World} (h : Wrote B b w w') (hK : b < K) : KeepsFrom K w w' := ⟨h.below.size, fun k o hk ho hc => h.others k o ho (by intro e; cases e; omega) (fun c fz e => by subst e; cases hc)⟩

/-- Between two rounds of Text's loop. -/
structure TX (w : World) (ls : List Ln) (k : Nat) (W : World) : Prop where
  below : Below w.heap.size w W
  bld : Bld w.heap.size w.heap.size (textsL (ls.take k)) W

set_option maxRecDepth 100000 in
set_option maxHeartbeats 2000000 in
theorem texts_in (av : Option Addr) (cap blk off : Nat) (ls : List Ln) (w : World) (hT : Tabs w) (hl : ls.length ≤ 1000000) (hfL : ∀ x ∈ ls, Fits x.L) (hfT : ∀ x ∈ ls, Fits x.t) (hin : IsLines w av blk off ls) :
    CallsIn Fence.wide 100 Tryz.prog 18 #[.slice av ls.length cap] w fun e w' => e = .returned (.string (bs (textsL ls))) ∧ Below w.heap.size w w' := by
  refine callsIn_of_wp_marks Tryz.func18 rfl trivial ?_
  simp only [Tryz.ntmps18, List.size_toArray, List.length_cons, List.length_nil, Nat.reduceAdd, Nat.reduceSub, Array.replicate_succ, Array.replicate_zero, List.push_toArray, List.append_toArray, List.nil_append, List.cons_append]
  gi_wp2
  refine ⟨trivial, (linesOf_in Fence.wide 99 trivial rfl _ _ _ _).mono ?_⟩
  rintro e w1 ⟨rfl, hw1⟩
  have hI0 : TX w ls 0 w1 := by
    rw [hw1]
    refine ⟨((Below.refl _ w).alloc (Nat.le_refl _) _).alloc (by simp) _, ?_⟩
    refine Lib.IsBuilderF.alloc (.inl ⟨Nat.le_refl _, .slice none 0 0, World.alloc_heap_new w _, ?_, by simp [Value.ownBlock]⟩) _
    simp only [List.take_zero, textsL, List.flatMap_nil]
    exact World.ownsRowF_nil _ _ _ _
  have hcb : w1.cell? ⟨w.heap.size + 1, 0, none⟩ = some (.slice av ls.length cap) := by rw [hw1]; go_simp
  have hsz : w1.heap.size = w.heap.size + 1 + 1 := by rw [hw1]; simp
  simp only [World.size_alloc]
  clear hw1
  gi_wp2
  refine range_lines (Bl := w.heap.size + 1) (blk := blk) (off := off) (cap := cap) (ls := ls) (av := av) rfl (by decide) trivial rfl rfl (by omega) (by omega) hcb hin.at_
    (TX w ls) (fun _ => False) ?rd ?ia ?io ?ixo hI0
    (fun p x By => { tmps := #[.slice av ls.length cap, undef, .string ⟨#[]⟩, .pointer (some ⟨w.heap.size, 0, none⟩), undef, .pointer (some ⟨By, 0, none⟩), .slice av ls.length cap, .func (.func 39) #[] #[.pointer (some ⟨w.heap.size + 1, 0, none⟩)], .int .i64 p, .agg #[.int .i64 x.L, .int .i64 x.o, .int .i64 x.a, .int .i64 x.b, .int .i64 x.c, .int .i64 x.i, .int .i64 x.t], undef, undef, undef, undef, undef], defers := [] }) ?assign ?body ?done ?stop
  case rd => exact fun k W hI => hin.has.below' hI.below hin.lt
  case ia => exact fun k W o hI => ⟨hI.below.alloc hI.below.size o, Lib.IsBuilderF.alloc hI.bld o⟩
  case io => exact fun k W r o o' hI hr hro hoc => ⟨hI.below.trans (below_put W o' (by omega)), Bld.kept hI.bld (grown_put W r o') (fun q e => by cases e; exact ⟨o, hro, hoc⟩)⟩
  case ixo => exact fun W r o o' hI _ _ _ => hI
  case assign =>
    intro q k W K hk hK
    gi_wp2
    exact hK
  case body =>
    intro q k Bx By W hk hI hBx hBy hne bx by'
    have hx := by'.at
    have hlt := by'.lt
    have hfl := hfL _ (List.getElem_mem hk)
    have hft := hfT _ (List.getElem_mem hk)
    have tl := textsL_len (ls.take k) (fun x hx => hfL x (List.mem_of_mem_take hx)) (fun x hx => hfT x (List.mem_of_mem_take hx))
    rw [List.length_take] at tl
    have ts := textsL_succ ls k hk
    generalize hxx : ls[k]'hk = x at hx bx by' hfl hft ts
    have xl := lnText_len x hfl hft
    obtain ⟨c0, c1, c2, c3, c4, c5, c6⟩ := hx
    simp only [Nat.zero_add] at c1 c2 c3 c4 c5 c6
    gi_wp2
    refine ⟨trivial, (CallsIn.inRound q (callsIn_wide.2 (lineText_any x hfl hft W (hT.on hI.below)))).mono ?_⟩
    rintro e W2 ⟨rfl, hb2⟩
    have hB2 : Below w.heap.size w W2 := hI.below.trans (hb2.mono hI.below.size)
    have hbl2 := Bld.later hI.bld hb2
    clear c0 c1 c2 c3 c4 c5 c6
    gi_wp2
    refine ⟨trivial, (CallsIn.inRound q (callsIn_wide.2 (writeString_any w.heap.size w.heap.size _ (bs x.text) W2 hbl2 (by rw [bs_size]; omega) hB2.size))).mono ?_⟩
    rintro e W3 ⟨rfl, hbl3, hw3⟩
    have hB3 : Below w.heap.size w W3 := hB2.trans hw3.below
    rw [bs_data] at hbl3
    gi_wp2
    refine ⟨trivial, (CallsIn.inRound q (callsIn_wide.2 (writeByte_any w.heap.size w.heap.size _ 10 W3 hbl3 (by rw [List.length_append]; omega) hB3.size))).mono ?_⟩
    rintro e W4 ⟨rfl, hbl4, hw4⟩
    gi_wp2
    refine ⟨(keepsFrom_below hb2).trans ((hw3.keeps (by omega)).trans (hw4.keeps (by omega))), ?_, hB3.trans hw4.below, by rw [ts]; exact hbl4⟩
    have k2 : BoxLn W2 Bx x := (hb2.block Bx bx.lt).trans bx
    have k3 := hw3.others Bx _ k2 (by intro e; cases e; omega) (fun c fz e => by cases e)
    have k4 := hw4.others Bx _ k3 (by intro e; cases e; omega) (fun c fz e => by cases e)
    rw [k4]; exact bx.symm
  case done =>
    intro D W hI hD hK
    obtain ⟨hbe, hbl⟩ := hI
    rw [List.take_length] at hbl
    gi_wp2
    refine ⟨trivial, (callsIn_wide.2 (Tryz.Builder_String_any_k w.heap.size w.heap.size (textsL ls) W hbl hbe.size)).mono ?_⟩
    rintro e W2 ⟨rfl, _, hb2, hk2⟩
    gi_wp2
    have hK2 : W2.heap[D]? = some (.deferred (some [])) := hk2 D _ hK (by intro e; cases e; omega) (fun c fz e => by cases e)
    refine ⟨by simp, .inl ⟨_, _, rfl, run_takeDeferred hK2, ?_⟩⟩
    exact ⟨.string (bs (textsL ls)), by simp [results, Tryz.results18, go_sem, bs], rfl, (hbe.trans hb2).trans (below_put W2 _ (by omega))⟩
  case stop =>
    intro D W hX hD hK
    exact hX.elim

theorem texts_any (av : Option Addr) (cap blk off : Nat) (ls : List Ln) (w : World) (hT : Tabs w) (hl : ls.length ≤ 1000000) (hfL : ∀ x ∈ ls, Fits x.L) (hfT : ∀ x ∈ ls, Fits x.t) (hin : IsLines w av blk off ls) :
    Calls Tryz.prog 18 #[.slice av ls.length cap] w fun e w' => e = .returned (.string (bs (textsL ls))) ∧ Below w.heap.size w w' := callsIn_wide.1 (texts_in av cap blk off ls w hT hl hfL hfT hin)

end Go.Proofs.YtbfmadcppnfgpaaGreatDoor
