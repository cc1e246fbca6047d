/-
  What one comes to (layer 6): the contract of graph's own Reach.
-/
import Derived.Test.YtonoeodlchkiaaaRight
import Derived.Laws.MakeOwn
namespace Go.Proofs.Ytonoeodlchkiaaa
open Go.ChangeShapes Go.WideShapes Go.ChangeAt Go.RowKit Go.Shelf

attribute [local go_sem] Oper.semAt_some

theorem Right.toI {g : List (List Nat)} (h : Right g) : RightI (castG g) := by
  refine ⟨by rw [castG_len]; exact h.one, by rw [castG_len]; exact h.most, fun j _ => by rw [castG_at, List.length_map]; exact h.rows j, ?_⟩
  rintro ⟨i, t⟩ he
  obtain ⟨_, ht⟩ := (mem_edgI _ i t).1 he
  rw [castG_at] at ht
  obtain ⟨x, hx, rfl⟩ := List.mem_map.1 ht
  have := h.lt i x hx
  rw [castG_len]
  show (0 : Int) ≤ (x : Int) ∧ (x : Int) < (g.length : Int)
  omega
theorem made_all (n : Nat) (v : Value) : madeCells #[v] (n * 1) = (List.replicate n v).toArray := by
  apply Array.ext_getElem?
  intro i
  by_cases h : i < n
  · simp [madeCells, h, Nat.mod_one]
  · simp [madeCells, h]
set_option maxRecDepth 100000 in
theorem typB : ∃ i, Try.prog.info? 4 = some i ∧ i.zero = some (.bool false) ∧ i.bytes = 1 ∧ i.size = 1 := ⟨_, rfl, rfl, rfl, rfl⟩
set_option maxRecDepth 100000 in
theorem typI : ∃ i, Try.prog.info? 3 = some i ∧ i.zero = some (.int .i64 0) ∧ i.bytes = 8 ∧ i.size = 1 := ⟨_, rfl, rfl, rfl, rfl⟩
set_option maxRecDepth 100000 in
theorem typR : ∃ i, Try.prog.info? 25 = some i ∧ i.zero = some (.slice none 0 0) ∧ i.bytes = 24 ∧ i.size = 1 := ⟨_, rfl, rfl, rfl, rfl⟩
/-- New rows. -/
theorem make_flags (n : Nat) (hn : n ≤ 100000000) (w : World) : (Instr.makeSlice 34 (.int .i64 (n : Int)) (.int .i64 (n : Int))).run Try.prog w = .ok (.slice (some ⟨w.heap.size, 0, none⟩) n n) (w.alloc (flagsO (List.replicate n false))) := by
  obtain ⟨i, h1, h2, h3, h4⟩ := typB
  have := run_make (P := Try.prog) (w := w) 34 4 i _ Try.underlying34 h1 h2 .i64 .i64 (n : Int) (n : Int) (by omega) (by omega) (by rw [h3]; omega) (by omega)
  rw [h4, show ((n : Int)).toNat = n by omega] at this
  rw [this]
  have e : madeCells (Value.bool false).cells (n * 1) = (List.replicate n (Value.bool false)).toArray := made_all n _
  rw [e, flagsO, List.map_replicate]
theorem make_ints (n : Nat) (hn : n ≤ 100000000) (w : World) : (Instr.makeSlice 25 (.int .i64 (n : Int)) (.int .i64 (n : Int))).run Try.prog w = .ok (.slice (some ⟨w.heap.size, 0, none⟩) n n) (w.alloc (.cells (List.replicate n (.int .i64 0)).toArray 3)) := by
  obtain ⟨i, h1, h2, h3, h4⟩ := typI
  have := run_make (P := Try.prog) (w := w) 25 3 i _ Try.underlying25 h1 h2 .i64 .i64 (n : Int) (n : Int) (by omega) (by omega) (by rw [h3]; omega) (by omega)
  rw [h4, show ((n : Int)).toNat = n by omega] at this
  rw [this]
  have e : madeCells (Value.int .i64 0).cells (n * 1) = (List.replicate n (Value.int .i64 0)).toArray := made_all n _
  rw [e]
theorem make_rows (n : Nat) (hn : n ≤ 100000000) (w : World) : (Instr.makeSlice 22 (.int .i64 (n : Int)) (.int .i64 (n : Int))).run Try.prog w = .ok (.slice (some ⟨w.heap.size, 0, none⟩) n n) (w.alloc (.cells (List.replicate n (.slice none 0 0)).toArray 25)) := by
  obtain ⟨i, h1, h2, h3, h4⟩ := typR
  have := run_make (P := Try.prog) (w := w) 22 25 i _ Try.underlying22 h1 h2 .i64 .i64 (n : Int) (n : Int) (by omega) (by omega) (by rw [h3]; omega) (by omega)
  rw [h4, show ((n : Int)).toNat = n by omega] at this
  rw [this]
  have e : madeCells (Value.slice none 0 0).cells (n * 1) = (List.replicate n (Value.slice none 0 0)).toArray := made_all n _
  rw [e]

theorem bel_put {B : Nat} {w W : World} (h : Below B w W) (D : Nat) (o : Obj) (hD : B ≤ D) : Below B w (W.putObj D o) := h.trans ⟨rfl, rfl, rfl, by simp [World.putObj], fun b hb => World.putObj_heap_other (by omega)⟩
/-- Flags of who is among some. -/
def flg (n : Nat) (s : List Nat) : List Bool := (List.range n).map fun x => decide (x ∈ s)
theorem flg_nil (n : Nat) : flg n [] = List.replicate n false := by
  unfold flg; simp [List.map_const']
theorem flg_len (n : Nat) (s : List Nat) : (flg n s).length = n := by simp [flg]
theorem flg_at (n : Nat) (s : List Nat) (x : Nat) (h : x < n) : (flg n s)[x]? = some (decide (x ∈ s)) := by simp [flg, h]
theorem flg_set (n : Nat) (s : List Nat) (x : Nat) : (flg n s).set x true = flg n (s ++ [x]) := by
  apply List.ext_getElem?
  intro i
  by_cases hi : i < n
  · by_cases hx : x = i
    · subst hx; rw [List.getElem?_set_self (by rw [flg_len]; exact hi), flg_at _ _ _ hi]; simp
    · rw [List.getElem?_set_ne hx, flg_at _ _ _ hi, flg_at _ _ _ hi]; simp [Ne.symm hx]
  · rw [List.getElem?_eq_none (by simp [flg_len]; omega), List.getElem?_eq_none (by simp [flg_len]; omega)]

set_option maxRecDepth 100000 in
set_option maxHeartbeats 2000000 in
/-- Reach of a right graph, from one of its blocks. -/
theorem reach_is (av : Option Addr) (cap blk off : Nat) (hd : Nat → Hdr) (g : List (List Nat)) (hgr : Right g) (s0 : Nat) (hs0 : s0 < g.length) (w : World) (hG : GAt w av blk off hd (castG g)) :
    Calls Try.prog 21 #[.slice av g.length cap, .int .i64 (s0 : Int)] w fun e w' => Below w.heap.size w w' ∧ ∃ R m' o, w.heap.size ≤ R ∧ e = .returned (.slice (some ⟨R, 0, none⟩) g.length g.length) ∧ w'.heap[R]? = some (flagsO (flg g.length o)) ∧ Walk g [s0] (List.replicate g.length false) m' o := by
  refine (callsIn_wide (n := 0)).1 ?_
  have hr := right_any av cap blk off hd (castG g) w hG
  rw [castG_len] at hr
  have hrt : rightB (castG g) = true := rightB_true.2 hgr.toI
  rw [hrt] at hr
  have hone := hgr.one
  have hmost := hgr.most
  have HG : Hid (GAt w av blk off hd (castG g)) := hG
  clear hG
  have mk := make_flags g.length (by omega)
  have hin : (0 ≤ (s0 : Int) ∧ (s0 : Int) < (g.length : Int)) := by omega
  refine callsIn_of_wp_marks Try.func21 rfl trivial ?_
  simp only [Try.ntmps21, List.size_toArray, List.length_cons, List.length_nil, Nat.reduceAdd, Nat.reduceSub, Array.replicate_succ, Array.replicate_zero, List.push_toArray, List.append_toArray, List.nil_append, List.cons_append]
  gi_wp2
  refine ⟨by trivial, by trivial, (callsIn_wide.2 hr).mono ?_⟩
  rintro e w1 ⟨rfl, hb1⟩
  gi_wp2
  refine ⟨by trivial, by trivial, (callsIn_wide.2 (isBlock_any _ _ _ _ _)).mono ?_⟩
  rintro e w1' ⟨rfl, rfl⟩
  rw [decide_eq_true hin]
  gi_wp2
  generalize hW : ((w1'.alloc (flagsO (List.replicate g.length false))).alloc (.cells #[.slice (some ⟨w1'.heap.size, 0, none⟩) g.length g.length] 34)).alloc (flagsO (List.replicate g.length false)) = w2
  have hb2 : Below w1'.heap.size w1' w2 := by rw [← hW]; exact (((Below.refl _ w1').alloc (Nat.le_refl _) _).alloc (by simp) _).alloc (by simp; omega) _
  have kR : w2.heap[w1'.heap.size]? = some (flagsO (List.replicate g.length false)) := by
    rw [← hW, Below.heap_alloc _ _ _ (by simp; omega), Below.heap_alloc _ _ _ (by simp)]; exact World.alloc_heap_new w1' _
  have kb : w2.heap[w1'.heap.size + 1]? = some (.cells #[.slice (some ⟨w1'.heap.size, 0, none⟩) g.length g.length] 34 (0, 0)) := by
    rw [← hW, Below.heap_alloc _ _ _ (by simp)]
    have := World.alloc_heap_new (w1'.alloc (flagsO (List.replicate g.length false))) (.cells #[.slice (some ⟨w1'.heap.size, 0, none⟩) g.length g.length] 34)
    rwa [World.size_alloc] at this
  have kM : w2.heap[w1'.heap.size + 2]? = some (flagsO (List.replicate g.length false)) := by
    rw [← hW]
    have := World.alloc_heap_new ((w1'.alloc (flagsO (List.replicate g.length false))).alloc (.cells #[.slice (some ⟨w1'.heap.size, 0, none⟩) g.length g.length] 34)) (flagsO (List.replicate g.length false))
    rwa [World.size_alloc, World.size_alloc] at this
  have hs2 : w2.heap.size = w1'.heap.size + 3 := by rw [← hW]; simp
  have hB2 : Below w.heap.size w w2 := hb1.trans (hb2.mono hb1.size)
  have hle := hb1.size
  clear hW mk hb1 hb2 hr
  generalize w1'.heap.size = h at *
  refine ⟨by trivial, by trivial, (leaving_in 0 _ _ _ _ _ _ _ w2).mono ?_⟩
  rw [hs2]
  rintro e w3 ⟨rfl, hs3, hb3, kg, ks, km⟩
  gi_wp2
  refine range_leaving (M := h + 1 + 1) (Bm := h + 3 + 2) (Bg := h + 3) (Bs := h + 3 + 1) (start := s0) (m := List.replicate g.length false) (av := av) (blk := blk) (off := off) (hd := hd) (cap := cap) rfl rfl hgr.okay (by simp) hs0 (by omega) km kg ks ((hb3.block _ (by omega)).trans kM)
    (fun s W => Below w.heap.size w W ∧ W.heap[h]? = some (flagsO (flg g.length s)) ∧ W.heap[h + 1]? = some (.cells #[.slice (some ⟨h, 0, none⟩) g.length g.length] 34 (0, 0))) ?hI ?hRd ?h0 ?hround ?hdone
  case hI =>
    rintro s W W' ⟨i1, i2, i3⟩ ht
    have hq : ∀ b, b < h + 2 → ¬ lvP (h + 1 + 1) (h + 3 + 2) (h + 3) w3.heap.size b := fun b hb hn => by
      rcases hn with h | h | h | h <;> omega
    have := lt_of i3
    exact ⟨ht.below i1 i1.size (fun b hb => hq b (by omega)), (ht.block _ (by omega) (hq _ (by omega))).trans i2, (ht.block _ (by omega) (hq _ (by omega))).trans i3⟩
  case hRd => exact fun s W h => HG.out.below h.1
  case h0 => exact ⟨hB2.trans (hb3.mono (by omega)), by rw [flg_nil]; exact (hb3.block _ (by omega)).trans kR, (hb3.block _ (by omega)).trans kb⟩
  case hround =>
    intro l s x W K hx _ hK
    have HK := hide hK
    clear hK
    gi_wp2
    refine HK.out _ ?_
    rintro Wb ⟨i1, i2, i3⟩ hsz
    have c0 : Wb.cell? ⟨h + 1, 0, none⟩ = some (.slice (some ⟨h, 0, none⟩) g.length g.length) := cell_of i3 0
    have c1 : Wb.cell? ⟨h, x, none⟩ = some (.bool (decide (x ∈ s))) := by rw [cell_of i2]; simp [flg_at _ _ _ hx]
    have f1 := frozen_of i2 x
    have hxi : ((x : Int) < (g.length : Int)) = True := by simp; omega
    have hx2 : x ≤ 4096 := by omega
    gi_wp2
    refine ⟨by simp, fun b hb => Below.heap_setCell _ _ _ _ (by show b ≠ h; rcases hb with h | h | h | h <;> omega), i1.setCell (p := ⟨h, x, none⟩) (by exact hle) _, ?_, (Below.heap_setCell _ _ _ _ (by show h + 1 ≠ h; omega)).trans i3⟩
    rw [← flg_set]; exact set_flags i2 x true
  case hdone =>
    rintro D s W m' ⟨i1, i2, i3⟩ hw hm' hD hK
    have c0 : W.cell? ⟨h + 1, 0, none⟩ = some (.slice (some ⟨h, 0, none⟩) g.length g.length) := cell_of i3 0
    gi_wp2
    refine ⟨by simp, .inl ⟨_, _, rfl, run_takeDeferred hK, ?_⟩⟩
    exact ⟨.slice (some ⟨h, 0, none⟩) g.length g.length, by simp [results, Try.results21, go_sem], bel_put i1 D _ (by omega), h, m', s, hle, rfl, (World.putObj_heap_other (by omega)).trans i2, hw⟩

/-- Reach tells nothing of what is not right, or of no block. -/
theorem reach_none (av : Option Addr) (cap blk off : Nat) (hd : Nat → Hdr) (g : List (List Int)) (s0 : Int) (hno : ¬ (RightI g ∧ 0 ≤ s0 ∧ s0 < (g.length : Int))) (w : World) (hG : GAt w av blk off hd g) :
    Calls Try.prog 21 #[.slice av g.length cap, .int .i64 s0] w fun e w' => Below w.heap.size w w' ∧ e = .returned (.slice none 0 0) := by
  refine (callsIn_wide (n := 0)).1 ?_
  have hr := right_any av cap blk off hd g w hG
  clear hG
  refine callsIn_of_wp_marks Try.func21 rfl trivial ?_
  simp only [Try.ntmps21, List.size_toArray, List.length_cons, List.length_nil, Nat.reduceAdd, Nat.reduceSub, Array.replicate_succ, Array.replicate_zero, List.push_toArray, List.append_toArray, List.nil_append, List.cons_append]
  gi_wp2
  refine ⟨by trivial, by trivial, (callsIn_wide.2 hr).mono ?_⟩
  rintro e w1 ⟨rfl, hb1⟩
  by_cases h1 : RightI g
  · rw [rightB_true.2 h1]
    gi_wp2
    refine ⟨by trivial, by trivial, (callsIn_wide.2 (isBlock_any _ _ _ _ _)).mono ?_⟩
    rintro e w1' ⟨rfl, rfl⟩
    rw [decide_eq_false (fun h => hno ⟨h1, h⟩)]
    gi_wp2
    exact ⟨.slice none 0 0, by simp [results, Try.results21, go_sem], hb1, rfl⟩
  · rw [rightB_false h1]
    gi_wp2
    refine ⟨trivial, ?_⟩
    gi_wp2
    exact ⟨.slice none 0 0, by simp [results, Try.results21, go_sem], hb1, rfl⟩

end Go.Proofs.Ytonoeodlchkiaaa
