/-
  The labels of lines (layer 5): the contract of asm's own labels.
-/
import Derived.Test.YtbfmadcppnfgpaaGreatDoorLabs
namespace Go.Proofs.YtbfmadcppnfgpaaGreatDoor
open Go.ChangeShapes Go.WideShapes Go.ChangeAt Go.RowKit Go.Shelf Go.Maps

attribute [local go_sem] Oper.semAt_some

theorem HasLines.below' {W W' : World} {blk off B : Nat} {ls : List Ln} (h : HasLines W blk off ls) (hb : Below B W W') (hlt : 0 < ls.length → blk < B) : HasLines W' blk off ls := fun k hk => (h k hk).below hb (hlt (by omega))
/-- A slice of lines that holds just these. -/
structure IsLines (W : World) (av : Option Addr) (blk off : Nat) (ls : List Ln) : Prop where
  at_ : 0 < ls.length → av = some ⟨blk, off, none⟩
  lt : 0 < ls.length → blk < W.heap.size
  has : HasLines W blk off ls
theorem IsLines.later {W W' : World} {av : Option Addr} {blk off : Nat} {ls : List Ln} (h : IsLines W av blk off ls) (hb : Below W.heap.size W W') : IsLines W' av blk off ls :=
  ⟨h.at_, fun h0 => Nat.lt_of_lt_of_le (h.lt h0) hb.size, h.has.below' hb h.lt⟩
theorem keepsFrom_below {B : Nat} {W W' : World} (h : Below W.heap.size W W') : KeepsFrom B W W' := ⟨h.size, fun k _ _ hk _ => (h.block k (Array.getElem?_eq_some_iff.1 hk).1).trans hk⟩
theorem below_put {B r : Nat} (W : World) (o : Obj) (h : B ≤ r) : Below B W (W.putObj r o) :=
  ⟨rfl, rfl, rfl, by simp [World.putObj], fun k hk => World.putObj_heap_other (by omega)⟩
theorem box_at {W W' : World} {B : Nat} {t : TypeId} {v : Value} (h : Boxed W B t v) (hb : W'.heap[B]? = W.heap[B]?) : Boxed W' B t v := hb.trans h
theorem heap_set (W : World) (b r : Nat) (v : Value) (h : b ≠ r) : (W.setCell ⟨r, 0, none⟩ v).heap[b]? = W.heap[b]? := Below.heap_setCell W ⟨r, 0, none⟩ v b h
theorem keepsFrom_set {B r : Nat} {W : World} {t : TypeId} {u : Value} (h : Boxed W r t u) (v : Value) : KeepsFrom B W (W.setCell ⟨r, 0, none⟩ v) := ⟨by simp, fun k o _ hk ho => by
  have hne : k ≠ r := fun e => by subst e; rw [show W.heap[k]? = _ from h] at hk; cases hk; cases ho
  exact (heap_set W k r v hne).trans hk⟩

/-- What labels answers. -/
def LabAns (ls : List Ln) (w : World) (e : Ending) (w' : World) : Prop :=
  Below w.heap.size w w' ∧ (((∃ x ∈ ls, x.right = false) ∧ e = .returned (.tuple #[.map none, .int .i64 1])) ∨ ((∀ x ∈ ls, x.right = true) ∧ ¬ (labs ls).Nodup ∧ e = .returned (.tuple #[.map none, .int .i64 4])) ∨
    ((∀ x ∈ ls, x.right = true) ∧ (labs ls).Nodup ∧ ∃ mb, w.heap.size ≤ mb ∧ e = .returned (.tuple #[.map (some mb), .int .i64 0]) ∧ LabMap w' mb (tab ls ls.length)))

/-- Between two rounds of the first loop. -/
structure LA (w : World) (ls : List Ln) (k : Nat) (W : World) : Prop where
  below : Below w.heap.size w W
  b1 : Boxed W w.heap.size 64 (.map none)
  b2 : Boxed W (w.heap.size + 1) 27 (.int .i64 0)
  all : ∀ (j : Nat) (h : j < ls.length), j < k → (ls[j]'h).right = true
theorem LA.on {w W W' : World} {ls : List Ln} {k : Nat} (h : LA w ls k W) (hb : Below (w.heap.size + 2) W W') : LA w ls k W' :=
  ⟨h.below.trans (hb.mono (by omega)), box_at h.b1 (hb.block _ (by omega)), box_at h.b2 (hb.block _ (by omega)), h.all⟩
theorem LA.le {w W : World} {ls : List Ln} {k : Nat} (h : LA w ls k W) : w.heap.size + 2 ≤ W.heap.size := by have := h.b2.lt; omega
structure LAx (w : World) (ls : List Ln) (W : World) : Prop where
  below : Below w.heap.size w W
  b1 : Boxed W w.heap.size 64 (.map none)
  b2 : Boxed W (w.heap.size + 1) 27 (.int .i64 1)
  bad : ∃ x ∈ ls, x.right = false
theorem LAx.on {w W W' : World} {ls : List Ln} (h : LAx w ls W) (hb : Below (w.heap.size + 2) W W') : LAx w ls W' :=
  ⟨h.below.trans (hb.mono (by omega)), box_at h.b1 (hb.block _ (by omega)), box_at h.b2 (hb.block _ (by omega)), h.bad⟩

theorem LabMap.nodup {W : World} {mb : Nat} {es : List (Int × Int)} (h : LabMap W mb es) : (es.map Prod.fst).Nodup := by obtain ⟨D, _, _, _, _, h⟩ := h; exact h
theorem cell_put (W : World) (r b o : Nat) (x : Obj) (h : b ≠ r) : (W.putObj r x).cell? ⟨b, o, none⟩ = W.cell? ⟨b, o, none⟩ := World.cell?_of_block (World.putObj_heap_other h)

/-- Between two rounds of the second loop. -/
structure LB (w : World) (ls : List Ln) (D mb k : Nat) (W : World) : Prop where
  below : Below w.heap.size w W
  b1 : Boxed W w.heap.size 64 (.map none)
  b2 : Boxed W (w.heap.size + 1) 27 (.int .i64 0)
  b3 : Boxed W (mb + 1) 64 (.map (some mb))
  d : W.heap[D]? = some (.deferred (some []))
  m : LabMap W mb (tab ls k)
theorem LB.le {w W : World} {ls : List Ln} {D mb k : Nat} (h : LB w ls D mb k W) : mb + 2 ≤ W.heap.size := by have := h.b3.lt; omega
theorem LB.on {w W W' : World} {ls : List Ln} {D mb k : Nat} (h : LB w ls D mb k W) (hb : Below (mb + 2) W W') (h1 : w.heap.size + 2 ≤ mb) (h2 : D < mb) : LB w ls D mb k W' :=
  ⟨h.below.trans (hb.mono (by omega)), box_at h.b1 (hb.block _ (by omega)), box_at h.b2 (hb.block _ (by omega)), box_at h.b3 (hb.block _ (by omega)), (hb.block _ (by omega)).trans h.d, h.m.on (hb.block _ (by omega))⟩
structure LBx (w : World) (ls : List Ln) (D : Nat) (W : World) : Prop where
  below : Below w.heap.size w W
  b1 : Boxed W w.heap.size 64 (.map none)
  b2 : Boxed W (w.heap.size + 1) 27 (.int .i64 4)
  d : W.heap[D]? = some (.deferred (some []))
  twice : ¬ (labs ls).Nodup
theorem LBx.on {w W W' : World} {ls : List Ln} {D mb : Nat} (h : LBx w ls D W) (hb : Below (mb + 2) W W') (h1 : w.heap.size + 2 ≤ mb) (h2 : D < mb) : LBx w ls D W' :=
  ⟨h.below.trans (hb.mono (by omega)), box_at h.b1 (hb.block _ (by omega)), box_at h.b2 (hb.block _ (by omega)), (hb.block _ (by omega)).trans h.d, h.twice⟩

set_option maxRecDepth 100000 in
set_option maxHeartbeats 2000000 in
theorem labels_in (av : Option Addr) (cap blk off : Nat) (ls : List Ln) (w : World) (hl : ls.length ≤ 1000000000) (hfit : ∀ x ∈ ls, Fits x.L) (hin : IsLines w av blk off ls) :
    CallsIn Fence.wide 100 Tryz.prog 25 #[.slice av ls.length cap] w (LabAns ls w) := by
  refine callsIn_of_wp_marks Tryz.func25 rfl trivial ?_
  simp only [Tryz.ntmps25, List.size_toArray, List.length_cons, List.length_nil, Nat.reduceAdd, Nat.reduceSub, Array.replicate_succ, Array.replicate_zero, List.push_toArray, List.append_toArray, List.nil_append, List.cons_append]
  gi_wp2
  refine ⟨trivial, (linesOf_in Fence.wide 99 trivial rfl _ _ _ _).mono ?_⟩
  rintro e w1 ⟨rfl, hw1⟩
  have hI0 : LA w ls 0 w1 := by
    rw [hw1]
    exact ⟨(((Below.refl _ w).alloc (Nat.le_refl _) _).alloc (by simp) _).alloc (by simp; omega) _, ((Boxed.new w _ _).alloc _).alloc _, (by have := Boxed.new (w.alloc (.cells #[.map none] 64)) 27 (.int .i64 0); rw [World.size_alloc] at this; exact this.alloc _), fun j h h0 => by omega⟩
  have hcb : w1.cell? ⟨w.heap.size + 1 + 1, 0, none⟩ = some (.slice av ls.length cap) := by rw [hw1]; go_simp
  have hsz : w1.heap.size = w.heap.size + 1 + 1 + 1 := by rw [hw1]; simp
  simp only [World.size_alloc]
  clear hw1
  gi_wp2
  refine range_lines (Bl := w.heap.size + 1 + 1) (blk := blk) (off := off) (cap := cap) (ls := ls) (av := av) rfl (by decide) trivial rfl rfl (by omega) (by omega) hcb hin.at_
    (LA w ls) (LAx w ls) ?rd ?ia ?io ?ixo hI0
    (fun p x By => { tmps := #[.slice av ls.length cap, undef, .pointer (some ⟨w.heap.size, 0, none⟩), .pointer (some ⟨w.heap.size + 1, 0, none⟩), undef, .pointer (some ⟨By, 0, none⟩), undef, undef, undef, undef, undef, .slice av ls.length cap,
          .func (.func 39) #[] #[.pointer (some ⟨w.heap.size + 1 + 1, 0, none⟩)], .int .i64 p, .agg #[.int .i64 x.L, .int .i64 x.o, .int .i64 x.a, .int .i64 x.b, .int .i64 x.c, .int .i64 x.i, .int .i64 x.t], undef, undef, undef, undef, undef, undef, undef, undef, undef, undef, undef, undef, undef, undef, undef, undef, undef, undef, undef, undef, undef, undef, undef, undef], defers := [] }) ?assign ?body ?done ?stop
  case rd => exact fun k W hI => hin.has.below' hI.below hin.lt
  case ia => exact fun k W o hI => hI.on ((Below.refl _ W).alloc hI.le o)
  case io => exact fun k W r o o' hI hr _ _ => hI.on (below_put W o' (by omega))
  case ixo => exact fun W r o o' hI hr _ _ => hI.on (below_put W o' (by omega))
  case assign =>
    intro q k W K hk hK
    gi_wp2
    exact hK
  case body =>
    intro q k Bx By W hk hI hBx hBy hne bx by'
    have hx := by'.at
    have hlt := by'.lt
    generalize hxx : ls[k]'hk = x at hx bx by'
    obtain ⟨c0, c1, c2, c3, c4, c5, c6⟩ := hx
    gi_wp2
    refine ⟨trivial, (CallsIn.inRound q (callsIn_wide.2 (rightL_any x W))).mono ?_⟩
    rintro e W2 ⟨rfl, hb2⟩
    have hI2 := hI.on (hb2.mono hI.le)
    have kx : W2.heap[Bx]? = W.heap[Bx]? := hb2.block Bx bx.lt
    have ko : KeepsFrom w1.heap.size W W2 := keepsFrom_below hb2
    clear c0 c1 c2 c3 c4 c5 c6
    cases hr : x.right with
    | false =>
      have j1 := hI2.b1.cell
      have g1 := hI2.b1.frozen
      have j2 := hI2.b2.cell
      have g2 := hI2.b2.frozen
      gi_wp2
      refine ⟨ko.trans ((keepsFrom_set hI2.b1 _).trans (keepsFrom_set (box_at hI2.b2 (heap_set _ _ _ _ (by omega))) _)), ?_, ?_, ?_, ⟨x, ?_, hr⟩⟩
      · exact (hI2.below.setCell (p := ⟨w.heap.size, 0, none⟩) (Nat.le_refl _) _).setCell (p := ⟨w.heap.size + 1, 0, none⟩) (by show _ ≤ w.heap.size + 1; omega) _
      · exact box_at (Boxed.set _ hI2.b1) (heap_set _ _ _ _ (by omega))
      · exact Boxed.set _ (box_at hI2.b2 (heap_set _ _ _ _ (by omega)))
      · rw [← hxx]; exact List.getElem_mem _
    | true =>
      gi_wp2
      refine ⟨ko, kx, hI2.below, hI2.b1, hI2.b2, fun j h hj => ?_⟩
      rcases Nat.lt_or_ge j k with h1 | h1
      · exact hI2.all j h h1
      · obtain rfl : j = k := by omega
        rw [hxx]; exact hr
  case done =>
    intro D W hI hD hK
    have hmm := @run_makeMap Tryz.prog
    have hall : Hid (∀ x ∈ ls, x.right = true) := fun x hx => by
      obtain ⟨j, hj, rfl⟩ := List.getElem_of_mem hx
      exact hI.all j hj hj
    have hDW : D < W.heap.size := (Array.getElem?_eq_some_iff.1 hK).1
    gi_wp2
    refine ⟨trivial, (linesOf_in Fence.wide 99 trivial rfl _ _ _ _).mono ?_⟩
    rintro e w2 ⟨rfl, hw2⟩
    have hJ0 : LB w ls D W.heap.size 0 w2 := by
      have hb : Below W.heap.size W w2 := by rw [hw2]; exact (((Below.refl _ W).alloc (Nat.le_refl _) _).alloc (by simp) _).alloc (by simp; omega) _
      refine ⟨hI.below.trans (hb.mono (by omega)), box_at hI.b1 (hb.block _ (by omega)), box_at hI.b2 (hb.block _ (by omega)), ?_, (hb.block _ hDW).trans hK, ?_⟩
      · rw [hw2]; have := Boxed.new (W.alloc (.map #[] 0)) 64 (.map (some W.heap.size)); rw [World.size_alloc] at this; exact this.alloc _
      · rw [hw2]; exact (LabMap.made W).on (by rw [Below.heap_alloc _ _ _ (by simp; omega), Below.heap_alloc _ _ _ (by simp)])
    have hcb2 : w2.cell? ⟨W.heap.size + 1 + 1, 0, none⟩ = some (.slice av ls.length cap) := by rw [hw2]; go_simp
    have hsz2 : w2.heap.size = W.heap.size + 1 + 1 + 1 := by rw [hw2]; simp
    simp only [World.size_alloc]
    have hle := hI.le
    clear hw2 hmm hI hI0 hcb
    generalize hmb : W.heap.size = mb at hJ0 hcb2 hsz2 hDW
    gi_wp2
    refine range_lines (Bl := mb + 1 + 1) (blk := blk) (off := off) (cap := cap) (ls := ls) (av := av) rfl (by decide) trivial rfl rfl (by omega) (by omega) hcb2 hin.at_
      (LB w ls D mb) (LBx w ls D) ?rd ?ia ?io ?ixo hJ0
      (fun p x By => { tmps := #[.slice av ls.length cap, undef, .pointer (some ⟨w.heap.size, 0, none⟩), .pointer (some ⟨w.heap.size + 1, 0, none⟩), undef, undef, .pointer (some ⟨mb + 1, 0, none⟩), .int .i64 p, .pointer (some ⟨By, 0, none⟩), undef, undef, .slice av ls.length cap,
            .func (.func 39) #[] #[.pointer (some ⟨w.heap.size + 1 + 1, 0, none⟩)], undef, undef, undef, undef, undef, .map (some mb), .slice av ls.length cap, .func (.func 39) #[] #[.pointer (some ⟨mb + 1 + 1, 0, none⟩)], .int .i64 p, .agg #[.int .i64 x.L, .int .i64 x.o, .int .i64 x.a, .int .i64 x.b, .int .i64 x.c, .int .i64 x.i, .int .i64 x.t], undef, undef, undef, undef, undef, undef, undef, undef, undef, undef, undef, undef, undef, undef, undef, undef], defers := [] }) ?assign ?body ?done2 ?stop2
    case rd => exact fun k W hI => hin.has.below' hI.below hin.lt
    case ia => exact fun k W o hI => hI.on ((Below.refl _ W).alloc hI.le o) (by omega) (by omega)
    case io => exact fun k W r o o' hI hr _ _ => hI.on (below_put W o' (by omega)) (by omega) (by omega)
    case ixo => exact fun W r o o' hI hr _ _ => hI.on (below_put W o' (show mb + 2 ≤ r by omega)) (by omega) (by omega)
    case assign =>
      intro q k W K hk hK
      gi_wp2
      exact hK
    case body =>
      intro q k Bx By W hk hI hBx hBy hne bx by'
      have hpl := plc_le ls k
      have htl := tab_len ls k (by omega)
      have hf := hfit _ (List.getElem_mem hk)
      have ti := tab_inst ls k hk
      have tl := tab_label ls k hk
      have tw := twice_of ls k hk
      have hx := by'.at
      have hlt := by'.lt
      generalize hxx : ls[k]'hk = x at hx bx by' hf ti tl tw
      generalize hp : plc ls k = p at hpl htl tl
      have TI : Hid (x.L = 0 → tab ls (k + 1) = tab ls k) := ti
      have TL : Hid (¬ x.L = 0 → tab ls (k + 1) = tab ls k ++ [(x.L, (p : Int))]) := tl
      have TW : Hid (¬ x.L = 0 → x.L ∈ (tab ls k).map Prod.fst → ¬ (labs ls).Nodup) := tw
      clear ti tl tw hp
      have c0 := hx.c0
      clear hx
      by_cases hz : x.L = 0
      · gi_wp2
        exact ⟨KeepsFrom.refl _ _, rfl, ⟨hI.below, hI.b1, hI.b2, hI.b3, hI.d, by rw [TI.out hz]; exact hI.m⟩⟩
      · obtain ⟨D0, hown, hh, hv, hs, hnd⟩ := hI.m
        have j3 := hI.b3.cell
        have hkey : keyOf Tryz.prog 3 (.int .i64 x.L) = some (.int .i64 x.L) := keyOf_int_mk Tryz.underlying3 hf.wf
        have hhx := hh x.L
        cases hhas : has D0 (.int .i64 x.L) with
        | true =>
          have hmem : x.L ∈ (tab ls k).map Prod.fst := by rw [hhas] at hhx; simpa using hhx.symm
          have HM : Hid (x.L ∈ (tab ls k).map Prod.fst) := hmem
          have j1 := hI.b1.cell
          have g1 := hI.b1.frozen
          have j2 := hI.b2.cell
          have g2 := hI.b2.frozen
          clear hhx hmem
          gi_wp2_with (gi_at_lookup; refine wpListIn_lookup_own_ok_int _ rfl _ _ 64 rfl 3 3 .i64 law3 Tryz.underlying64 Tryz.underlying3 (zero3 _) mb _ D0 rfl hown _ _ rfl hkey ?_; intro c hat hwc; rw [hhas])
          refine ⟨(keepsFrom_set hI.b1 _).trans (keepsFrom_set (box_at hI.b2 (heap_set _ _ _ _ (by omega))) _), ?_, ?_, ?_, ?_, TW.out hz HM.out⟩
          · exact (hI.below.setCell (p := ⟨w.heap.size, 0, none⟩) (Nat.le_refl _) _).setCell (p := ⟨w.heap.size + 1, 0, none⟩) (by show _ ≤ w.heap.size + 1; omega) _
          · exact box_at (Boxed.set _ hI.b1) (heap_set _ _ _ _ (by omega))
          · exact Boxed.set _ (box_at hI.b2 (heap_set _ _ _ _ (by omega)))
          · rw [heap_set _ _ _ _ (by omega), heap_set _ _ _ _ (by omega)]; exact hI.d
        | false =>
          have hmem : x.L ∉ (tab ls k).map Prod.fst := by rw [hhas] at hhx; simpa using hhx.symm
          clear hhx
          gi_wp2_with (first
            | (gi_at_lookup; refine wpListIn_lookup_own_ok_int _ rfl _ _ 64 rfl 3 3 .i64 law3 Tryz.underlying64 Tryz.underlying3 (zero3 _) mb _ D0 rfl hown _ _ rfl hkey ?_; intro c hat hwc; rw [hhas])
            | (gi_at_mapUpdate; refine wpListIn_mapUpdate_own _ rfl _ _ _ 64 rfl 3 3 law3 Tryz.underlying64 _ mb _ D0 rfl hown (by unfold maxLen; omega) _ _ _ rfl rfl hkey _ [] (plainElem_int Tryz.underlying3 (WalkArith.wf_i64 (by omega))) ?_; intro w3 hown1 hgrow1))
          refine ⟨KeepsFrom.of_grownBy hgrow1 (fun j e => by cases e; omega), hgrow1.block Bx bx.lt (fun e => by cases e; omega), ?_⟩
          exact ⟨hI.below.grown hgrow1 hI.below.size (fun j e => by cases e; omega), Boxed.kept hI.b1 hgrow1 (fun e => by cases e; omega), Boxed.kept hI.b2 hgrow1 (fun e => by cases e; omega), Boxed.kept hI.b3 hgrow1 (fun e => by cases e), (hgrow1.block D (by have := hI.le; omega) (fun e => by cases e; omega)).trans hI.d, by rw [TL.out hz]; exact LabMap.put hown hh hv hs hnd hmem hown1⟩
    case done2 =>
      intro D2 W2 hI hD2 hK2
      have j3 := hI.b3.cell
      have j1 := hI.b1.cell
      have g1 := hI.b1.frozen
      have j2 := hI.b2.cell
      have g2 := hI.b2.frozen
      gi_wp2
      generalize hW3 : (W2.setCell ⟨w.heap.size, 0, none⟩ (.map (some mb))).setCell ⟨w.heap.size + 1, 0, none⟩ (.int .i64 0) = W3
      have hk : ∀ b, b ≠ w.heap.size → b ≠ w.heap.size + 1 → W3.heap[b]? = W2.heap[b]? := fun b h1 h2 => by rw [← hW3, heap_set _ _ _ _ h2, heap_set _ _ _ _ h1]
      have hB3 : Below w.heap.size w W3 := by rw [← hW3]; exact (hI.below.setCell (p := ⟨w.heap.size, 0, none⟩) (Nat.le_refl _) _).setCell (p := ⟨w.heap.size + 1, 0, none⟩) (by show _ ≤ w.heap.size + 1; omega) _
      have v1 : Boxed W3 w.heap.size 64 (.map (some mb)) := by rw [← hW3]; exact box_at (Boxed.set _ hI.b1) (heap_set _ _ _ _ (by omega))
      have v2 : Boxed W3 (w.heap.size + 1) 27 (.int .i64 0) := by rw [← hW3]; exact Boxed.set _ (box_at hI.b2 (heap_set _ _ _ _ (by omega)))
      have vm : LabMap W3 mb (tab ls ls.length) := hI.m.on (hk _ (by omega) (by omega))
      have vk2 : W3.heap[D2]? = some (.deferred (some [])) := (hk _ (by omega) (by omega)).trans hK2
      have vd : W3.heap[D]? = some (.deferred (some [])) := (hk _ (by omega) (by omega)).trans hI.d
      refine ⟨by simp, .inl ⟨_, _, rfl, run_takeDeferred vk2, ?_⟩⟩
      refine ⟨by simp, .inl ⟨_, _, rfl, run_takeDeferred ((heap_put _ _ _ _ (by omega)).trans vd), ?_⟩⟩
      have u1 := (cell_put _ D w.heap.size 0 (.deferred none) (by omega)).trans ((cell_put W3 D2 w.heap.size 0 (.deferred none) (by omega)).trans v1.cell)
      have u2 := (cell_put _ D (w.heap.size + 1) 0 (.deferred none) (by omega)).trans ((cell_put W3 D2 (w.heap.size + 1) 0 (.deferred none) (by omega)).trans v2.cell)
      exact ⟨.tuple #[.map (some mb), .int .i64 0], by simp [results, Tryz.results25, go_sem, u1, u2], hB3.trans ((below_put W3 _ (show w.heap.size ≤ D2 by omega)).trans (below_put _ _ (show w.heap.size ≤ D by omega))), .inr (.inr ⟨hall.out, vm.nodup, mb, by omega, rfl, vm.on ((heap_put _ _ _ _ (by omega)).trans (heap_put _ _ _ _ (by omega)))⟩)⟩
    case stop2 =>
      intro D2 W2 hX hD2 hK2
      have j1 := hX.b1.cell
      have j2 := hX.b2.cell
      gi_wp2
      refine ⟨by simp, .inl ⟨_, _, rfl, run_takeDeferred hK2, ?_⟩⟩
      refine ⟨by simp, .inl ⟨_, _, rfl, run_takeDeferred ((heap_put _ _ _ _ (by omega)).trans hX.d), ?_⟩⟩
      have u1 := (cell_put _ D w.heap.size 0 (.deferred none) (by omega)).trans ((cell_put W2 D2 w.heap.size 0 (.deferred none) (by omega)).trans j1)
      have u2 := (cell_put _ D (w.heap.size + 1) 0 (.deferred none) (by omega)).trans ((cell_put W2 D2 (w.heap.size + 1) 0 (.deferred none) (by omega)).trans j2)
      exact ⟨.tuple #[.map none, .int .i64 4], by simp [results, Tryz.results25, go_sem, u1, u2], hX.below.trans ((below_put W2 _ (show w.heap.size ≤ D2 by omega)).trans (below_put _ _ (show w.heap.size ≤ D by omega))), .inr (.inl ⟨hall.out, hX.twice, rfl⟩)⟩
  case stop =>
    intro D W hX hD hK
    have j1 := hX.b1.cell
    have j2 := hX.b2.cell
    gi_wp2
    refine ⟨by simp, .inl ⟨_, _, rfl, run_takeDeferred hK, ?_⟩⟩
    have u1 := (cell_put W D w.heap.size 0 (.deferred none) (by omega)).trans j1
    have u2 := (cell_put W D (w.heap.size + 1) 0 (.deferred none) (by omega)).trans j2
    exact ⟨.tuple #[.map none, .int .i64 1], by simp [results, Tryz.results25, go_sem, u1, u2], hX.below.trans (below_put W _ (by omega)), .inl ⟨hX.bad, rfl⟩⟩

theorem labels_any (av : Option Addr) (cap blk off : Nat) (ls : List Ln) (w : World) (hl : ls.length ≤ 1000000000) (hfit : ∀ x ∈ ls, Fits x.L) (hin : IsLines w av blk off ls) :
    Calls Tryz.prog 25 #[.slice av ls.length cap] w (LabAns ls w) := callsIn_wide.1 (labels_in av cap blk off ls w hl hfit hin)

end Go.Proofs.YtbfmadcppnfgpaaGreatDoor
