/-
  Whether each jump leads to a label (layer 5): the contract of asm's own lead.
-/
import Derived.Test.YtbfmadcppnfgpaaGreatDoorLab
namespace Go.Proofs.YtbfmadcppnfgpaaGreatDoor
open Go.ChangeShapes Go.WideShapes Go.ChangeAt Go.RowKit Go.Shelf Go.Maps

attribute [local go_sem] Oper.semAt_some

/-- Each jump leads to one of the labels. -/
def leads (ls : List Ln) (ks : List Int) : Prop := ∀ x ∈ ls, x.t = 0 ∨ x.t ∈ ks
structure LD (w : World) (ls : List Ln) (mb : Nat) (es : List (Int × Int)) (k : Nat) (W : World) : Prop where
  below : Below w.heap.size w W
  b1 : Boxed W w.heap.size 64 (.map (some mb))
  b2 : Boxed W (w.heap.size + 1) 4 (.bool false)
  all : ∀ (j : Nat) (h : j < ls.length), j < k → (ls[j]'h).t = 0 ∨ (ls[j]'h).t ∈ es.map Prod.fst
theorem LD.le {w W : World} {ls : List Ln} {mb : Nat} {es : List (Int × Int)} {k : Nat} (h : LD w ls mb es k W) : w.heap.size + 2 ≤ W.heap.size := by have := h.b2.lt; omega
theorem LD.on {w W W' : World} {ls : List Ln} {mb : Nat} {es : List (Int × Int)} {k : Nat} (h : LD w ls mb es k W) (hb : Below (w.heap.size + 2) W W') : LD w ls mb es k W' :=
  ⟨h.below.trans (hb.mono (by omega)), box_at h.b1 (hb.block _ (by omega)), box_at h.b2 (hb.block _ (by omega)), h.all⟩
structure LDx (w : World) (ls : List Ln) (es : List (Int × Int)) (W : World) : Prop where
  below : Below w.heap.size w W
  b2 : Boxed W (w.heap.size + 1) 4 (.bool false)
  bad : ¬ leads ls (es.map Prod.fst)
theorem LDx.on {w W W' : World} {ls : List Ln} {es : List (Int × Int)} (h : LDx w ls es W) (hb : Below (w.heap.size + 2) W W') : LDx w ls es W' :=
  ⟨h.below.trans (hb.mono (by omega)), box_at h.b2 (hb.block _ (by omega)), h.bad⟩

def LeadAns (ls : List Ln) (ks : List Int) (w : World) (e : Ending) (w' : World) : Prop :=
  Below w.heap.size w w' ∧ ((leads ls ks ∧ e = .returned (.bool true)) ∨ (¬ leads ls ks ∧ e = .returned (.bool false)))

set_option maxRecDepth 100000 in
set_option maxHeartbeats 2000000 in
theorem lead_in (av : Option Addr) (cap blk off mb : Nat) (ls : List Ln) (es : List (Int × Int)) (w : World) (hl : ls.length ≤ 1000000000) (hfit : ∀ x ∈ ls, Fits x.t) (hin : IsLines w av blk off ls) (hm : LabMap w mb es) :
    CallsIn Fence.wide 100 Tryz.prog 26 #[.slice av ls.length cap, .map (some mb)] w (LeadAns ls (es.map Prod.fst) w) := by
  have hml := hm.lt
  refine callsIn_of_wp_marks Tryz.func26 rfl trivial ?_
  simp only [Tryz.ntmps26, List.size_toArray, List.length_cons, List.length_nil, Nat.reduceAdd, Nat.reduceSub, Array.replicate_succ, Array.replicate_zero, List.push_toArray, List.append_toArray, List.nil_append, List.cons_append]
  gi_wp2
  refine ⟨trivial, (linesOf_in Fence.wide 99 trivial rfl _ _ _ _).mono ?_⟩
  rintro e w1 ⟨rfl, hw1⟩
  have hI0 : LD w ls mb es 0 w1 := by
    rw [hw1]
    exact ⟨(((Below.refl _ w).alloc (Nat.le_refl _) _).alloc (by simp) _).alloc (by simp; omega) _, ((Boxed.new w _ _).alloc _).alloc _, (by have := Boxed.new (w.alloc (.cells #[.map (some mb)] 64)) 4 (.bool false); rw [World.size_alloc] at this; exact this.alloc _), fun j h h0 => by omega⟩
  have hcb : w1.cell? ⟨w.heap.size + 1 + 1, 0, none⟩ = some (.slice av ls.length cap) := by rw [hw1]; go_simp
  have hsz : w1.heap.size = w.heap.size + 1 + 1 + 1 := by rw [hw1]; simp
  simp only [World.size_alloc]
  clear hw1
  gi_wp2
  refine range_lines (Bl := w.heap.size + 1 + 1) (blk := blk) (off := off) (cap := cap) (ls := ls) (av := av) rfl (by decide) trivial rfl rfl (by omega) (by omega) hcb hin.at_
    (LD w ls mb es) (LDx w ls es) ?rd ?ia ?io ?ixo hI0
    (fun p x By => { tmps := #[.slice av ls.length cap, .map (some mb), undef, .pointer (some ⟨w.heap.size, 0, none⟩), .pointer (some ⟨w.heap.size + 1, 0, none⟩), undef, .pointer (some ⟨By, 0, none⟩), undef, undef, .slice av ls.length cap,
          .func (.func 39) #[] #[.pointer (some ⟨w.heap.size + 1 + 1, 0, none⟩)], .int .i64 p, .agg #[.int .i64 x.L, .int .i64 x.o, .int .i64 x.a, .int .i64 x.b, .int .i64 x.c, .int .i64 x.i, .int .i64 x.t], undef, undef, undef, undef, undef, undef, undef, undef, undef, undef, undef, undef], defers := [] }) ?assign ?body ?done ?stop
  case rd => exact fun k W hI => hin.has.below' hI.below hin.lt
  case ia => exact fun k W o hI => hI.on ((Below.refl _ W).alloc hI.le o)
  case io => exact fun k W r o o' hI hr _ _ => hI.on (below_put W o' (by omega))
  case ixo => exact fun W r o o' hI hr _ _ => hI.on (below_put W o' (by omega))
  case assign =>
    intro q k W K hk hK
    gi_wp2
    exact hK
  case body =>
    intro q k Bx By W hk hI hBx hBy hne bx by'
    have hf := hfit _ (List.getElem_mem hk)
    have hmem := List.getElem_mem hk
    have hx := by'.at
    have hlt := by'.lt
    have hmW : LabMap W mb es := hm.on (hI.below.block _ hml)
    have hall := hI.all
    generalize hxx : ls[k]'hk = x at hx bx by' hf hmem
    have HX : Hid (ls[k]'hk = x) := hxx
    have c6 : W.cell? ⟨By, 6, none⟩ = some (.int .i64 x.t) := hx.c6
    clear hx hxx hall
    have step : Hid ((x.t = 0 ∨ x.t ∈ es.map Prod.fst) → LD w ls mb es (k + 1) W) := fun h0 => ⟨hI.below, hI.b1, hI.b2, fun j h hj => by
      rcases Nat.lt_or_ge j k with h1 | h1
      · exact hI.all j h h1
      · obtain rfl : j = k := by omega
        rw [HX.out]; exact h0⟩
    by_cases hz : x.t = 0
    · gi_wp2
      exact ⟨KeepsFrom.refl _ _, rfl, step.out (.inl hz)⟩
    · obtain ⟨D0, hown, hh, hv, hs, hnd⟩ := hmW
      have j3 := hI.b1.cell
      have hkey : keyOf Tryz.prog 3 (.int .i64 x.t) = some (.int .i64 x.t) := keyOf_int_mk Tryz.underlying3 hf.wf
      have hhx := hh x.t
      cases hhas : has D0 (.int .i64 x.t) with
      | true =>
        have hin0 : x.t ∈ es.map Prod.fst := by rw [hhas] at hhx; simpa using hhx.symm
        have hin' : Hid (x.t ∈ es.map Prod.fst) := hin0
        clear hhx hin0
        gi_wp2_with (gi_at_lookup; refine wpListIn_lookup_own_ok_int _ rfl _ _ 64 rfl 3 3 .i64 law3 Tryz.underlying64 Tryz.underlying3 (zero3 _) mb _ D0 rfl hown _ _ rfl hkey ?_; intro c hat hwc; rw [hhas])
        exact ⟨KeepsFrom.refl _ _, rfl, step.out (.inr hin'.out)⟩
      | false =>
        have hin0 : x.t ∉ es.map Prod.fst := by rw [hhas] at hhx; simpa using hhx.symm
        have hin' : Hid (x.t ∉ es.map Prod.fst) := hin0
        clear hin0
        have j2 := hI.b2.cell
        have g2 := hI.b2.frozen
        clear hhx
        gi_wp2_with (gi_at_lookup; refine wpListIn_lookup_own_ok_int _ rfl _ _ 64 rfl 3 3 .i64 law3 Tryz.underlying64 Tryz.underlying3 (zero3 _) mb _ D0 rfl hown _ _ rfl hkey ?_; intro c hat hwc; rw [hhas])
        exact ⟨keepsFrom_set hI.b2 _, hI.below.setCell (p := ⟨w.heap.size + 1, 0, none⟩) (by show _ ≤ w.heap.size + 1; omega) _, Boxed.set _ hI.b2, fun h => (h x hmem).elim hz hin'.out⟩
  case done =>
    intro D W hI hD hK
    have j2 := hI.b2.cell
    have g2 := hI.b2.frozen
    gi_wp2
    have v2 : Boxed (W.setCell ⟨w.heap.size + 1, 0, none⟩ (.bool true)) (w.heap.size + 1) 4 (.bool true) := Boxed.set _ hI.b2
    have hB2 := hI.below.setCell (p := ⟨w.heap.size + 1, 0, none⟩) (by show _ ≤ w.heap.size + 1; omega) (.bool true)
    have hK2 := (heap_set W D (w.heap.size + 1) (.bool true) (by omega)).trans hK
    generalize W.setCell ⟨w.heap.size + 1, 0, none⟩ (.bool true) = W2 at v2 hB2 hK2 ⊢
    refine ⟨by simp, .inl ⟨_, _, rfl, run_takeDeferred hK2, ?_⟩⟩
    have u2 := (cell_put W2 D (w.heap.size + 1) 0 (.deferred none) (by omega)).trans v2.cell
    exact ⟨.bool true, by simp [results, Tryz.results26, go_sem, u2], hB2.trans (below_put W2 _ (by omega)), .inl ⟨fun x hx => by
      obtain ⟨j, hj, rfl⟩ := List.getElem_of_mem hx
      exact hI.all j hj hj, rfl⟩⟩
  case stop =>
    intro D W hX hD hK
    have j2 := hX.b2.cell
    gi_wp2
    refine ⟨by simp, .inl ⟨_, _, rfl, run_takeDeferred hK, ?_⟩⟩
    have u2 := (cell_put W D (w.heap.size + 1) 0 (.deferred none) (by omega)).trans j2
    exact ⟨.bool false, by simp [results, Tryz.results26, go_sem, u2], hX.below.trans (below_put W _ (by omega)), .inr ⟨hX.bad, rfl⟩⟩

theorem lead_any (av : Option Addr) (cap blk off mb : Nat) (ls : List Ln) (es : List (Int × Int)) (w : World) (hl : ls.length ≤ 1000000000) (hfit : ∀ x ∈ ls, Fits x.t) (hin : IsLines w av blk off ls) (hm : LabMap w mb es) :
    Calls Tryz.prog 26 #[.slice av ls.length cap, .map (some mb)] w (LeadAns ls (es.map Prod.fst) w) := callsIn_wide.1 (lead_in av cap blk off mb ls es w hl hfit hin hm)

end Go.Proofs.YtbfmadcppnfgpaaGreatDoor
