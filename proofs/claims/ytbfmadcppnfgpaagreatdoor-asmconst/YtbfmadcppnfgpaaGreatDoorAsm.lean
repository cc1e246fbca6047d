/-
  Assemble of package asm (layer 5): its contract.
-/
import Derived.Test.YtbfmadcppnfgpaaGreatDoorCode
namespace Go.Proofs.YtbfmadcppnfgpaaGreatDoor
open Go.ChangeShapes Go.WideShapes Go.ChangeAt Go.RowKit Go.Shelf Go.Maps

attribute [local go_sem] Oper.semAt_some

/-- The code of lines. -/
def asmL (ls : List Ln) : List Ins := codeL (tab ls ls.length) ls
theorem asmL_len (ls : List Ln) : (asmL ls).length = plc ls ls.length := by
  have := codeL_len (tab ls ls.length) ls ls.length
  rwa [List.take_length] at this
/-- Whether lines may be assembled, and what is told otherwise. -/
inductive Told (ls : List Ln) : Int → Prop
  | wrong : (∃ x ∈ ls, x.right = false) → Told ls 1
  | twice : (∀ x ∈ ls, x.right = true) → ¬ (labs ls).Nodup → Told ls 4
  | none : (∀ x ∈ ls, x.right = true) → (labs ls).Nodup → ¬ leads ls (labs ls) → Told ls 3
structure Good (ls : List Ln) : Prop where
  right : ∀ x ∈ ls, x.right = true
  once : (labs ls).Nodup
  lead : leads ls (labs ls)
def AsmAns (ls : List Ln) (w : World) (e : Ending) (w' : World) : Prop :=
  Below w.heap.size w w' ∧ ((∃ n, Told ls n ∧ e = .returned (.tuple #[.slice none 0 0, .int .i64 n])) ∨ (Good ls ∧ ∃ g, w.heap.size ≤ g ∧ g < w'.heap.size ∧ e = .returned (.tuple #[.slice (some ⟨g, 0, none⟩) (asmL ls).length (asmL ls).length, .int .i64 0]) ∧ HasInsts w' g 0 (asmL ls)))

theorem plc_mono (ls : List Ln) (k : Nat) : ∀ m, k + m ≤ ls.length → plc ls k ≤ plc ls (k + m)
  | 0, _ => Nat.le_refl _
  | m + 1, h => by
    have := plc_mono ls k m (by omega)
    have e := plc_succ ls (k + m) (by omega)
    rw [← Nat.add_assoc]; omega
theorem plc_lt (ls : List Ln) (k : Nat) (h : k < ls.length) (hz : (ls[k]'h).L = 0) : plc ls k < plc ls ls.length := by
  have e := plc_succ ls k h
  rw [if_pos hz] at e
  have := plc_mono ls (k + 1) (ls.length - (k + 1)) (by omega)
  rw [show k + 1 + (ls.length - (k + 1)) = ls.length by omega] at this
  omega

/-- Between two rounds of Assemble's loop. -/
structure AL (w : World) (ls : List Ln) (mb p4 g n k : Nat) (W : World) : Prop where
  below : Below w.heap.size w W
  b4 : Boxed W p4 64 (.map (some mb))
  b7 : Boxed W (g + 1) 23 (.slice (some ⟨g, 0, none⟩) n n)
  m : LabMap W mb (tab ls ls.length)
  row : ∃ cs, cs.length = n ∧ RowI W g cs ∧ cs.take (plc ls k) = codeL (tab ls ls.length) (ls.take k)
theorem AL.le {w W : World} {ls : List Ln} {mb p4 g n k : Nat} (h : AL w ls mb p4 g n k W) : g + 2 ≤ W.heap.size := by have := h.b7.lt; omega
theorem AL.on {w W W' : World} {ls : List Ln} {mb p4 g n k : Nat} (h : AL w ls mb p4 g n k W) (hb : Below (g + 2) W W') (h1 : w.heap.size ≤ g) (h2 : mb < g) (h3 : p4 < g) : AL w ls mb p4 g n k W' := by
  obtain ⟨cs, r1, r2, r3⟩ := h.row
  exact ⟨h.below.trans (hb.mono (by omega)), box_at h.b4 (hb.block _ (by omega)), box_at h.b7 (hb.block _ (by omega)), h.m.on (hb.block _ (by omega)), cs, r1, r2.block (hb.block _ (by omega)), r3⟩

set_option maxRecDepth 100000 in
set_option maxHeartbeats 2000000 in
theorem assemble_in (av : Option Addr) (cap blk off : Nat) (ls : List Ln) (w : World) (hl : ls.length ≤ 1000000) (hfL : ∀ x ∈ ls, Fits x.L) (hfT : ∀ x ∈ ls, Fits x.t) (hin : IsLines w av blk off ls) :
    CallsIn Fence.wide 100 Tryz.prog 15 #[.slice av ls.length cap] w (AsmAns ls w) := by
  refine callsIn_of_wp_marks Tryz.func15 rfl trivial ?_
  simp only [Tryz.ntmps15, List.size_toArray, List.length_cons, List.length_nil, Nat.reduceAdd, Nat.reduceSub, Array.replicate_succ, Array.replicate_zero, List.push_toArray, List.append_toArray, List.nil_append, List.cons_append]
  gi_wp2
  refine ⟨trivial, (callsIn_wide.2 (labels_any av cap blk off ls w (by omega) hfL hin)).mono ?_⟩
  rintro e w1 ⟨hb1, ⟨hbad, rfl⟩ | ⟨hr, htw, rfl⟩ | ⟨hr, hon, mb, hmb, rfl, hm⟩⟩
  · gi_wp2
    exact ⟨.tuple #[.slice none 0 0, .int .i64 1], by simp [results, Tryz.results15, go_sem], hb1.alloc hb1.size _, .inl ⟨1, .wrong hbad, rfl⟩⟩
  · gi_wp2
    exact ⟨.tuple #[.slice none 0 0, .int .i64 4], by simp [results, Tryz.results15, go_sem], hb1.alloc hb1.size _, .inl ⟨4, .twice hr htw, rfl⟩⟩
  have hml := hm.lt
  have hHid : Hid (IsLines w av blk off ls) := hin
  gi_wp2
  have hbA : Below w1.heap.size w1 (w1.alloc (.cells #[.map (some mb)] 64)) := (Below.refl _ w1).alloc (Nat.le_refl _) _
  have hm1 : LabMap (w1.alloc (.cells #[.map (some mb)] 64)) mb (tab ls ls.length) := hm.on (hbA.block _ hml)
  have hbA' : Below w.heap.size w (w1.alloc (.cells #[.map (some mb)] 64)) := hb1.alloc hb1.size _
  have b4 := Boxed.new w1 64 (.map (some mb))
  refine ⟨trivial, (callsIn_wide.2 (lead_any av cap blk off mb ls _ _ (by omega) hfT ((hin.later hb1).later hbA) hm1)).mono ?_⟩
  generalize w1.alloc (.cells #[.map (some mb)] 64) = wA at hbA hm1 hbA' b4
  rintro e w2 ⟨hb2, ⟨hld, rfl⟩ | ⟨hld, rfl⟩⟩
  · have hB2 : Below w.heap.size w w2 := hbA'.trans (hb2.mono hbA'.size)
    have hm2 := hm1.on (hb2.block _ hm1.lt)
    have hb4 := box_at b4 (hb2.block _ b4.lt)
    have j4 := hb4.cell
    have hcnt := tab_len ls ls.length (Nat.le_refl _)
    obtain ⟨D0, hown, _, _, hs, _⟩ := id hm2
    have hln : ∀ ty, (Builtin.len_ #[64] ty #[.map (some mb)]).run Tryz.prog w2 = .ok (.int .i64 ((tab ls ls.length).length : Int)) w2 := fun ty => by have := hown.len Tryz.underlying64 ty; rwa [hs] at this
    have hlen : ((ls.length : Int) - ((tab ls ls.length).length : Int)) = (plc ls ls.length : Int) := by omega
    have hmk := make_code (plc ls ls.length) (by have := plc_le ls ls.length; omega)
    have hple := plc_le ls ls.length
    generalize hn : plc ls ls.length = n at hlen hmk hple
    generalize htl : (tab ls ls.length).length = tl at hln hlen
    have e1 : ((1048576 : Int) < (n : Int)) = False := by simp; omega
    gi_wp2
    refine ⟨trivial, (linesOf_in Fence.wide 99 trivial rfl _ _ _ _).mono ?_⟩
    rintro e w3 ⟨rfl, hw3⟩
    have hb3 : Below w2.heap.size w2 w3 := by rw [hw3]; exact (((Below.refl _ w2).alloc (Nat.le_refl _) _).alloc (by simp) _).alloc (by simp; omega) _
    have hI0 : AL w ls mb w1.heap.size w2.heap.size n 0 w3 := by
      refine ⟨hB2.trans (hb3.mono hB2.size), box_at hb4 (hb3.block _ hb4.lt), ?_, hm2.on (hb3.block _ hm2.lt), List.replicate n ⟨0, 0, 0, 0, 0⟩, by simp, ?_, by simp [plc_zero, codeL]⟩
      · rw [hw3]; have := Boxed.new (w2.alloc (.cells (madeCells #[.int .i64 0, .int .i64 0, .int .i64 0, .int .i64 0, .int .i64 0] (n * 5)) 31)) 23 (.slice (some ⟨w2.heap.size, 0, none⟩) n n); rw [World.size_alloc] at this; exact this.alloc _
      · rw [hw3]; exact (rowI_new w2 n).block (by rw [Below.heap_alloc _ _ _ (by simp; omega), Below.heap_alloc _ _ _ (by simp)])
    have hcb : w3.cell? ⟨w2.heap.size + 1 + 1, 0, none⟩ = some (.slice av ls.length cap) := by rw [hw3]; go_simp
    have hsz : w3.heap.size = w2.heap.size + 1 + 1 + 1 := by rw [hw3]; simp
    simp only [World.size_alloc]
    have hm2l := hm2.lt
    have hb4l := hb4.lt
    have hg : w.heap.size ≤ w2.heap.size := hB2.size
    clear hw3 hmk hln hb3 hown hs j4 hm2 hb4 hm1 hbA b4 hb2 hB2 hbA' hm hb1
    generalize w2.heap.size = g at *
    generalize w1.heap.size = p4 at *
    gi_wp2
    refine range_lines (Bl := g + 1 + 1) (blk := blk) (off := off) (cap := cap) (ls := ls) (av := av) rfl (by decide) trivial rfl rfl (by omega) (by omega) hcb hin.at_
      (AL w ls mb p4 g n) (fun _ => False) ?rd ?ia ?io ?ixo hI0
      (fun p x By => { tmps := #[.slice av ls.length cap, undef, .slice none 0 0, .int .i64 0, .pointer (some ⟨p4, 0, none⟩), .int .i64 0, .int .i64 n, .pointer (some ⟨g + 1, 0, none⟩), .int .i64 p, .pointer (some ⟨By, 0, none⟩), .tuple #[.map (some mb), .int .i64 0], .slice av ls.length cap, .tuple #[.map (some mb), .int .i64 0], .map (some mb), .int .i64 0, .int .i64 0, .bool false, undef, .slice av ls.length cap, .map (some mb), .bool true, .bool false, .slice av ls.length cap, .int .i64 ls.length, .map (some mb), .int .i64 tl, .int .i64 n, .int .i64 n, .bool false, .int .i64 n,
            .slice (some ⟨g, 0, none⟩) n n, .slice av ls.length cap, .func (.func 39) #[] #[.pointer (some ⟨g + 1 + 1, 0, none⟩)], .int .i64 p, .agg #[.int .i64 x.L, .int .i64 x.o, .int .i64 x.a, .int .i64 x.b, .int .i64 x.c, .int .i64 x.i, .int .i64 x.t], undef, undef, undef, undef, undef, undef, undef, undef, undef, undef, undef, undef, undef, undef, undef, undef, undef, undef], defers := [] }) ?assign ?body ?done ?stop
    case rd => exact fun k W hI => hHid.out.has.below' hI.below hHid.out.lt
    case ia => exact fun k W o hI => hI.on ((Below.refl _ W).alloc hI.le o) hg (by omega) (by omega)
    case io => exact fun k W r o o' hI hr _ _ => hI.on (below_put W o' (by omega)) hg (by omega) (by omega)
    case ixo => exact fun W r o o' hI _ _ _ => hI
    case assign =>
      intro q k W K hk hK
      gi_wp2
      exact hK
    case body =>
      intro q k Bx By W hk hI hBx hBy hne bx by'
      have hpl := plc_lt ls k hk
      have hft := hfT _ (List.getElem_mem hk)
      have hlx := hld _ (List.getElem_mem hk)
      have ci := codeL_inst (tab ls ls.length) ls k hk
      have cl := codeL_label (tab ls ls.length) ls k hk
      have ps := plc_succ ls k hk
      have hx := by'.at
      have hfr := by'.free
      have hlt := by'.lt
      rw [hn] at hpl
      generalize hxx : ls[k]'hk = x at hx bx by' hft hlx ci cl ps hpl
      generalize hp : plc ls k = p at hpl ps
      have HP : Hid (plc ls k = p) := hp
      have CI : Hid (x.L = 0 → codeL (tab ls ls.length) (ls.take (k + 1)) = codeL (tab ls ls.length) (ls.take k) ++ [x.ins (tab ls ls.length)]) := ci
      have CL : Hid (¬ x.L = 0 → codeL (tab ls ls.length) (ls.take (k + 1)) = codeL (tab ls ls.length) (ls.take k)) := cl
      have PS : Hid (plc ls (k + 1) = p + (if x.L = 0 then 1 else 0)) := ps
      clear ci cl ps hp
      obtain ⟨c0, c1, c2, c3, c4, c5, c6⟩ := hx
      simp only [Nat.zero_add] at c1 c2 c3 c4 c5 c6
      by_cases hz : x.L = 0
      · have hpn : p < n := hpl hz
        obtain ⟨cs, r1, r2, r3⟩ := hI.row
        have R3 : Hid (cs.take (plc ls k) = codeL (tab ls ls.length) (ls.take k)) := r3
        have hat := r2.has p (by omega)
        generalize cs[p]'(by omega) = y at hat
        obtain ⟨d0, d1, d2, d3, d4⟩ := hat
        have hfg := r2.free
        have j7 := hI.b7.cell
        have hpi : ((p : Int) < (n : Int)) = True := by simp; omega
        have fin : Hid (∀ (ac : Act) (W2 : World), (∀ b, b ≠ By → W2.heap[b]? = W.heap[b]?) → Below w.heap.size w W2 → KeepsFrom w3.heap.size W W2 → lnPost w3.heap.size Bx (AL w ls mb p4 g n) (fun _ => False) (k + 1) W .normal ac (put5 W2 g p (x.ins (tab ls ls.length)))) := by
          intro ac W2 h2 hb2 hk2
          have hr2 := r2.block (h2 g (by omega))
          have hk : ∀ b, b ≠ g → b ≠ By → (put5 W2 g p (x.ins (tab ls ls.length))).heap[b]? = W.heap[b]? := fun b e1 e2 => (put5_heap _ _ _ _ _ e1).trans (h2 b e2)
          refine ⟨hk2.trans ⟨(put5_below (B := 0) W2 g p _ (Nat.zero_le _)).size, fun b o hB hbo _ => (put5_heap _ _ _ _ _ (by omega)).trans hbo⟩, hk Bx (by omega) hne, hb2.trans (put5_below W2 g p _ hg), box_at hI.b4 (hk _ (by omega) (by omega)), box_at hI.b7 (hk _ (by omega) (by omega)), hI.m.on (hk _ (by omega) (by omega)), cs.set p (x.ins (tab ls ls.length)), by simpa using r1, put5_row hr2 (by omega) _, ?_⟩
          rw [PS.out, if_pos hz, CI.out hz, ← R3.out, HP.out, List.take_succ_eq_append_getElem (by simp; omega), List.getElem_set_self, List.take_set_of_le (Nat.le_refl _)]
        clear r1 r3
        by_cases ht : x.t = 0
        · have hxi : x.ins (tab ls ls.length) = ⟨x.o, x.a, x.b, x.c, x.i⟩ := by simp [Ln.ins, ht]
          have FIN := fun ac => fin.out ac W (fun _ _ => rfl) hI.below (KeepsFrom.refl _ _)
          rw [hxi] at FIN
          have FIN' : Hid (∀ ac, lnPost w3.heap.size Bx (AL w ls mb p4 g n) (fun _ => False) (k + 1) W .normal ac (put5 W g p ⟨x.o, x.a, x.b, x.c, x.i⟩)) := FIN
          clear FIN
          gi_wp2
          exact FIN'.out _
        · obtain ⟨D1, hown1, hat1⟩ := hI.m.at (hlx.resolve_left ht)
          have hxi : x.ins (tab ls ls.length) = ⟨x.o, x.a, x.b, x.c, placeOf (tab ls ls.length) x.t⟩ := by simp [Ln.ins, ht]
          rw [hxi] at fin
          generalize placeOf (tab ls ls.length) x.t = pv at hat1 fin
          have hkey : keyOf Tryz.prog 3 (.int .i64 x.t) = some (.int .i64 x.t) := keyOf_int_mk Tryz.underlying3 hft.wf
          have j4 := hI.b4.cell
          have FIN := fun ac => fin.out ac (W.setCell ⟨By, 5, none⟩ (.int .i64 pv)) (fun b hb => Below.heap_setCell W ⟨By, 5, none⟩ _ b hb) (hI.below.setCell (p := ⟨By, 5, none⟩) (by show _ ≤ By; omega) _) ⟨by simp, fun b o hB hbo ho => (Below.heap_setCell W ⟨By, 5, none⟩ _ b (by intro e; subst e; rw [show W.heap[b]? = _ from by'] at hbo; cases hbo; cases ho)).trans hbo⟩
          have FIN' : Hid (∀ ac, lnPost w3.heap.size Bx (AL w ls mb p4 g n) (fun _ => False) (k + 1) W .normal ac (put5 (W.setCell ⟨By, 5, none⟩ (.int .i64 pv)) g p ⟨x.o, x.a, x.b, x.c, pv⟩)) := FIN
          clear FIN hxi
          have hgB : g ≠ By := by omega
          gi_wp2_with (gi_at_lookup; refine wpListIn_lookup_own_int _ rfl _ _ 64 rfl 3 3 .i64 law3 Tryz.underlying64 Tryz.underlying3 (zero3 _) mb _ D1 rfl hown1 _ _ rfl hkey ?_; intro c hat hwc; obtain rfl : pv = c := by (rw [hat1] at hat; injection hat with h1; injection h1))
          exact FIN'.out _
      · gi_wp2
        exact ⟨KeepsFrom.refl _ _, rfl, hI.below, hI.b4, hI.b7, hI.m, by
          obtain ⟨cs, r1, r2, r3⟩ := hI.row
          exact ⟨cs, r1, r2, by rw [PS.out, if_neg hz, CL.out hz, ← r3, HP.out]; rfl⟩⟩
    case done =>
      intro D W hI hD hK
      have j7 := hI.b7.cell
      gi_wp2
      obtain ⟨cs, r1, r2, r3⟩ := hI.row
      rw [hn, List.take_of_length_le (by omega), List.take_length] at r3
      have hal : (asmL ls).length = n := (asmL_len ls).trans hn
      refine ⟨by simp, .inl ⟨_, _, rfl, run_takeDeferred hK, ?_⟩⟩
      refine ⟨.tuple #[.slice (some ⟨g, 0, none⟩) n n, .int .i64 0], by simp [results, Tryz.results15, go_sem], hI.below.trans (below_put W _ (by omega)), .inr ⟨⟨hr, hon, hld⟩, g, hg, ?_, by rw [hal], fun j hj => ?_⟩⟩
      · have := r2.lt; simpa [World.putObj] using this
      · have := (r2.block (heap_put W D g (.deferred none) (by omega))).has j (by rw [r3]; exact hj)
        simp only [r3] at this
        rw [Nat.zero_add]; exact this
    case stop =>
      intro D W hX hD hK
      exact hX.elim
  · have hB2 : Below w.heap.size w w2 := hbA'.trans (hb2.mono hbA'.size)
    gi_wp2
    exact ⟨.tuple #[.slice none 0 0, .int .i64 3], by simp [results, Tryz.results15, go_sem], hB2, .inl ⟨3, .none hr hon hld, rfl⟩⟩

theorem assemble_any (av : Option Addr) (cap blk off : Nat) (ls : List Ln) (w : World) (hl : ls.length ≤ 1000000) (hfL : ∀ x ∈ ls, Fits x.L) (hfT : ∀ x ∈ ls, Fits x.t) (hin : IsLines w av blk off ls) :
    Calls Tryz.prog 15 #[.slice av ls.length cap] w (AsmAns ls w) := callsIn_wide.1 (assemble_in av cap blk off ls w hl hfL hfT hin)

end Go.Proofs.YtbfmadcppnfgpaaGreatDoor
