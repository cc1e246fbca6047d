/-
  One loop's blocks (layer 6): the contract of graph's own loop.
-/
import Derived.Test.YtchnjjdhffmkpaaBack
namespace Go.Proofs.Ytchnjjdhffmkpaa
open Go.ChangeShapes Go.WideShapes Go.ChangeAt Go.RowKit Go.Shelf

attribute [local go_sem] Oper.semAt_some

/-- The marks that ranges leave. -/
abbrev markD (D : Nat) : Deferred := { target := .collected D, args := #[] }
theorem leaves_marks {n : Nat} {fn : Func} {tmps : Array Value} {R : Ending → World → Prop} : ∀ (Ds : List Nat) (W : World), Ds.Nodup → (∀ D ∈ Ds, W.heap[D]? = some (.deferred (some []))) →
    (∀ W', Turns (fun b => b ∈ Ds) W W' → LeavesInM Fence.wide n Try.prog fn tmps R [] .returning W') → LeavesInM Fence.wide n Try.prog fn tmps R (Ds.map markD) .returning W
  | [], W, _, _, h => h W (Turns.refl _ _)
  | D :: Ds, W, hn, hd, h => by
    rw [List.nodup_cons] at hn
    refine ⟨by simp, .inl ⟨D, _, rfl, run_takeDeferred (hd D (by simp)), ?_⟩⟩
    refine leaves_marks Ds _ hn.2 (fun D' hD' => ?_) (fun W' ht => h W' ?_)
    · exact (World.putObj_heap_other (fun e => hn.1 (by rw [← e]; exact hD'))).trans (hd D' (by simp [hD']))
    · exact (Turns.putObj (Q := fun b => b ∈ D :: Ds) W D _ (by simp)).trans (ht.mono fun b hb => by simp [hb])

/-- Flags of who is among some, and reached. -/
def flg2 (n : Nat) (s o : List Nat) : List Bool := (List.range n).map fun x => decide (x ∈ s) && decide (x ∈ o)
theorem flg2_nil (n : Nat) (o : List Nat) : flg2 n [] o = List.replicate n false := by
  unfold flg2; simp [List.map_const']
theorem flg2_len (n : Nat) (s o : List Nat) : (flg2 n s o).length = n := by simp [flg2]
theorem flg2_at (n : Nat) (s o : List Nat) (x : Nat) (h : x < n) : (flg2 n s o)[x]? = some (decide (x ∈ s) && decide (x ∈ o)) := by simp [flg2, h]
theorem flg2_set (n : Nat) (s o : List Nat) (x : Nat) : (flg2 n s o).set x (decide (x ∈ o)) = flg2 n (s ++ [x]) o := by
  apply List.ext_getElem?
  intro i
  by_cases hi : i < n
  · by_cases hx : x = i
    · subst hx; rw [List.getElem?_set_self (by rw [flg2_len]; exact hi), flg2_at _ _ _ _ hi]; simp
    · rw [List.getElem?_set_ne hx, flg2_at _ _ _ _ hi, flg2_at _ _ _ _ hi]; simp [Ne.symm hx]
  · rw [List.getElem?_eq_none (by simp [flg2_len]; omega), List.getElem?_eq_none (by simp [flg2_len]; omega)]
theorem set_flags2 {W : World} {M : Nat} {m : List Bool} (h : W.heap[M]? = some (flagsO m)) (b : Nat) (v : Bool) : (W.setCell ⟨M, b, none⟩ (.bool v)).heap[M]? = some (flagsO (m.set b v)) := set_flags h b v

noncomputable def loopRow (p : List (List Nat)) (head : Nat) (ends o : List Nat) : List Nat := head :: (List.range p.length).filter fun x => decide (x ∈ outOf p ends ((List.replicate p.length false).set head true)) && decide (x ∈ o)

set_option maxRecDepth 100000 in
set_option maxHeartbeats 2000000 in
theorem loop_is (H : Nat) (hd : Nat → Hdr) (p : List (List Nat)) (hpo : Okay p) (R : Nat) (o : List Nat) (head : Nat) (hhd : head < p.length) (eb eo ecap : Nat) (ends : List Nat) (hel : ends.length ≤ 1000000) (hends : ∀ x ∈ ends, x < p.length)
    (w : World) (hG : GAt w (some ⟨H, 0, none⟩) H 0 hd (castG p)) (hR : w.heap[R]? = some (flagsO (flg p.length o))) (hE : ∀ k, k < ends.length → w.cell? ⟨eb, eo + k, none⟩ = some (.int .i64 ((ends.getD k 0 : Nat) : Int))) (hElt : eb < w.heap.size) :
    Calls Try.prog 39 #[.slice (some ⟨H, 0, none⟩) p.length p.length, .slice (some ⟨R, 0, none⟩) p.length p.length, .int .i64 (head : Int), .slice (some ⟨eb, eo, none⟩) ends.length ecap] w fun e w' => Below w.heap.size w w' ∧ ∃ v, e = .returned v ∧ w'.ownsRow w.heap.size 3 1 v (loopRow p head ends o).length (intsV (loopRow p head ends o)) := by
  refine (callsIn_wide (n := 0)).1 ?_
  have hmost := hpo.most
  have HG := hide hG
  have HE := hide hE
  clear hG hE
  have mk := make_flags p.length (by omega)
  have hhi : ((head : Int) < (p.length : Int)) = True := eq_true (by omega)
  have hhb : head ≤ 4096 := by omega
  have k0 : (w.alloc (.cells #[.slice (some ⟨R, 0, none⟩) p.length p.length] 29)).heap[w.heap.size]? = some (.cells #[.slice (some ⟨R, 0, none⟩) p.length p.length] 29 (0, 0)) := World.alloc_heap_new w _
  have hb0 : Below w.heap.size w (w.alloc (.cells #[.slice (some ⟨R, 0, none⟩) p.length p.length] 29)) := (Below.refl _ w).alloc (Nat.le_refl _) _
  have hs0 : (w.alloc (.cells #[.slice (some ⟨R, 0, none⟩) p.length p.length] 29)).heap.size = w.heap.size + 1 := by simp
  refine callsIn_of_wp_marks Try.func39 rfl trivial ?_
  simp only [Try.ntmps39, List.size_toArray, List.length_cons, List.length_nil, Nat.reduceAdd, Nat.reduceSub, Array.replicate_succ, Array.replicate_zero, List.push_toArray, List.append_toArray, List.nil_append, List.cons_append]
  gi_wp2
  generalize hW : (((w.alloc (.cells #[.slice (some ⟨R, 0, none⟩) p.length p.length] 29)).alloc (.cells ((Array.replicate p.length (.bool false)).setIfInBounds head (.bool true)) 4)).alloc (flagsO (List.replicate p.length false))).alloc (.cells #[.slice (some ⟨w.heap.size + 1 + 1, 0, none⟩) p.length p.length] 29) = w4
  have hB4 : Below w.heap.size w w4 := by rw [← hW]; exact (((hb0.alloc (by simp) _).alloc (by simp; omega) _).alloc (by simp; omega) _)
  have kb : w4.heap[w.heap.size]? = some (.cells #[.slice (some ⟨R, 0, none⟩) p.length p.length] 29 (0, 0)) := by
    rw [← hW, Below.heap_alloc _ _ _ (by simp; omega), Below.heap_alloc _ _ _ (by simp; omega), Below.heap_alloc _ _ _ (by simp)]; exact k0
  have km : w4.heap[w.heap.size + 1]? = some (flagsO ((List.replicate p.length false).set head true)) := by
    rw [← hW, Below.heap_alloc _ _ _ (by simp), Below.heap_alloc _ _ _ (by simp)]
    have := World.alloc_heap_new (w.alloc (.cells #[.slice (some ⟨R, 0, none⟩) p.length p.length] 29)) (.cells ((Array.replicate p.length (.bool false)).setIfInBounds head (.bool true)) 4)
    rw [World.size_alloc] at this
    rw [this, flagsO, List.map_set, List.map_replicate, ← List.toArray_replicate, List.setIfInBounds_toArray]
  have kw : w4.heap[w.heap.size + 2]? = some (flagsO (flg2 p.length [] o)) := by
    rw [← hW, Below.heap_alloc _ _ _ (by simp), flg2_nil]
    have := World.alloc_heap_new ((w.alloc (.cells #[.slice (some ⟨R, 0, none⟩) p.length p.length] 29)).alloc (.cells ((Array.replicate p.length (.bool false)).setIfInBounds head (.bool true)) 4)) (flagsO (List.replicate p.length false))
    rwa [World.size_alloc, World.size_alloc] at this
  have kx : w4.heap[w.heap.size + 3]? = some (.cells #[.slice (some ⟨w.heap.size + 2, 0, none⟩) p.length p.length] 29 (0, 0)) := by
    rw [← hW]
    have := World.alloc_heap_new (((w.alloc (.cells #[.slice (some ⟨R, 0, none⟩) p.length p.length] 29)).alloc (.cells ((Array.replicate p.length (.bool false)).setIfInBounds head (.bool true)) 4)).alloc (flagsO (List.replicate p.length false))) (.cells #[.slice (some ⟨w.heap.size + 1 + 1, 0, none⟩) p.length p.length] 29)
    rwa [World.size_alloc, World.size_alloc, World.size_alloc] at this
  have hs4 : w4.heap.size = w.heap.size + 4 := by rw [← hW]; simp
  have hRl := lt_of hR
  clear hW mk hb0 hs0 k0
  have HW := hide (And.intro hR (And.intro HG.out HE.out))
  clear hR HG HE
  generalize hh : w.heap.size = h at *
  refine wpIn_loop (fun a W => ∃ (k : Nat) (Ds : List Nat) (u12 u13 u29 u30 u31 u32 u33 u34 u35 u36 u37 u38 u39 u40 u41 u42 u43 u44 : Value), a = { tmps := #[Value.slice (some ⟨H, 0, none⟩) p.length p.length, Value.slice (some ⟨R, 0, none⟩) p.length p.length, .int .i64 (head : Int), .slice (some ⟨eb, eo, none⟩) ends.length ecap, undef, .pointer (some ⟨h, 0, none⟩), undef, undef, .slice none 0 0, .slice (some ⟨h + 1, 0, none⟩) p.length p.length, .pointer (some ⟨h + 1 + 1 + 1, 0, none⟩), undef, u12, u13, undef, undef, undef, .slice (some ⟨H, 0, none⟩) p.length p.length, .int .i64 (p.length : Int), .slice (some ⟨h + 1, 0, none⟩) p.length p.length, .slice (some ⟨h + 1, 0, none⟩) p.length p.length, .int .i64 (head : Int), .pointer (some ⟨h + 1, head, none⟩), .slice (some ⟨H, 0, none⟩) p.length p.length, .int .i64 (p.length : Int), .slice (some ⟨h + 1 + 1, 0, none⟩) p.length p.length, .slice (some ⟨eb, eo, none⟩) ends.length ecap, .int .i64 (ends.length : Int), .int .i64 (k : Int), u29, u30, u31, u32, u33, u34, u35, u36, u37, u38, u39, u40, u41, u42, u43, u44, undef, undef, undef, undef, undef, undef, undef, undef, undef, undef, undef, undef, undef, undef, undef, undef], defers := Ds.map markD } ∧ k ≤ ends.length ∧ Ds.Nodup ∧ (∀ D ∈ Ds, h + 4 ≤ D ∧ W.heap[D]? = some (.deferred (some []))) ∧ Below h w W ∧ W.heap[h]? = some (.cells #[.slice (some ⟨R, 0, none⟩) p.length p.length] 29 (0, 0)) ∧ W.heap[h + 3]? = some (.cells #[.slice (some ⟨h + 2, 0, none⟩) p.length p.length] 29 (0, 0)) ∧ ∃ m1 o1, Walk p (ends.take k) ((List.replicate p.length false).set head true) m1 o1 ∧ W.heap[h + 1]? = some (flagsO m1) ∧ W.heap[h + 2]? = some (flagsO (flg2 p.length o1 o))) (fun a _ => ends.length - (intOf (a.tmps.getD 28 undef)).toNat) ?start ?round
  case start => exact ⟨0, [], undef, undef, undef, undef, undef, undef, undef, undef, undef, undef, undef, undef, undef, undef, undef, undef, undef, undef, rfl, Nat.zero_le _, List.nodup_nil, (fun D hD => by cases hD), hB4, kb, kx, (List.replicate p.length false).set head true, [], (by rw [List.take_zero]; exact Walk.nil _), km, kw⟩
  case round =>
    rintro a W ⟨k, Ds, u12, u13, u29, u30, u31, u32, u33, u34, u35, u36, u37, u38, u39, u40, u41, u42, u43, u44, rfl, hk, hnd, hDs, hB, jb, jx, m1, o1, hw1, jm, jw⟩
    clear hB4 kb km kw kx hs4
    by_cases hkl : k < ends.length
    · have e1 : ((k : Int) < (ends.length : Int)) = True := eq_true (by omega)
      have hx := hends _ (getD_mem ends k hkl)
      have c1 : W.cell? ⟨eb, eo + k, none⟩ = some (.int .i64 ((ends.getD k 0 : Nat) : Int)) := (hB.cell (p := ⟨eb, eo + k, none⟩) hElt).trans (HW.out.2.2 k hkl)
      have hta := take_next ends k hkl
      have HTA := hide hta
      clear hta
      generalize ends.getD k 0 = x at *
      have hsW : h + 4 ≤ W.heap.size := by have := lt_of jx; omega
      have HL := hide (leaving_in 0 (some ⟨H, 0, none⟩) (some ⟨h + 1, 0, none⟩) p.length p.length p.length p.length (x : Int) W)
      gi_wp2
      refine ⟨by trivial, by trivial, HL.out.mono ?_⟩
      clear HL
      rintro e W2 ⟨rfl, hs2, hb2, kg, ks, km⟩
      generalize hhs : W.heap.size = hs at *
      have hl1 := hw1.len
      rw [List.length_set, List.length_replicate] at hl1
      gi_wp2
      refine range_leaving (M := h + 1) (Bm := hs + 2) (Bg := hs) (Bs := hs + 1) (start := x) (m := m1) (av := some ⟨H, 0, none⟩) (blk := H) (off := 0) (hd := hd) (cap := p.length) rfl rfl hpo hl1 hx (by omega) km kg ks ((hb2.block _ (by omega)).trans jm)
        (fun s W => Below h w W ∧ W.heap[h]? = some (.cells #[.slice (some ⟨R, 0, none⟩) p.length p.length] 29 (0, 0)) ∧ W.heap[h + 3]? = some (.cells #[.slice (some ⟨h + 2, 0, none⟩) p.length p.length] 29 (0, 0)) ∧ (∀ D ∈ Ds, h + 4 ≤ D ∧ D < hs ∧ W.heap[D]? = some (.deferred (some []))) ∧ W.heap[h + 2]? = some (flagsO (flg2 p.length (o1 ++ s) o))) ?hI ?hRd ?h0 ?hround ?hdone
      case hI =>
        rintro s W' W'' ⟨i1, i2, i3, i4, i5⟩ ht
        have hq : ∀ b, b < hs → b ≠ h + 1 → ¬ lvP (h + 1) (hs + 2) hs W2.heap.size b := fun b hb hb2 hn => by
          rcases hn with h | h | h | h <;> omega
        have l3 := lt_of i3
        refine ⟨ht.below i1 (by rw [← hh]; exact i1.size) (fun b hb => hq b (by omega) (by omega)), (ht.block _ (by omega) (hq _ (by omega) (by omega))).trans i2, (ht.block _ (by omega) (hq _ (by omega) (by omega))).trans i3, fun D hD => ?_, (ht.block _ (by omega) (hq _ (by omega) (by omega))).trans i5⟩
        obtain ⟨h1, h2, h3⟩ := i4 D hD
        exact ⟨h1, h2, (ht.block D (lt_of h3) (hq D h2 (by omega))).trans h3⟩
      case hRd => exact fun s W' h' => HW.out.2.1.below (by rw [hh]; exact h'.1)
      case h0 =>
        refine ⟨hB.trans (hb2.mono (by omega)), (hb2.block _ (by omega)).trans jb, (hb2.block _ (by omega)).trans jx, fun D hD => ?_, by rw [List.append_nil]; exact (hb2.block _ (by omega)).trans jw⟩
        obtain ⟨h1, h2⟩ := hDs D hD
        have h3 := lt_of h2
        exact ⟨h1, by omega, (hb2.block D (by omega)).trans h2⟩
      case hround =>
        intro l s y W' K hy _ hK
        have HK := hide hK
        clear hK
        gi_wp2
        refine HK.out _ ?_
        rintro Wb ⟨i1, i2, i3, i4, i5⟩ hsz
        have c2 : Wb.cell? ⟨h + 1 + 1 + 1, 0, none⟩ = some (.slice (some ⟨h + 2, 0, none⟩) p.length p.length) := cell_of i3 0
        have c3 : Wb.cell? ⟨h, 0, none⟩ = some (.slice (some ⟨R, 0, none⟩) p.length p.length) := cell_of i2 0
        have i6 : Wb.heap[R]? = some (flagsO (flg p.length o)) := (i1.block R (by omega)).trans HW.out.1
        have c4 : Wb.cell? ⟨R, y, none⟩ = some (.bool (decide (y ∈ o))) := by rw [cell_of i6]; simp [flg_at _ _ _ hy]
        have c5 : Wb.cell? ⟨h + 2, y, none⟩ = some (.bool (decide (y ∈ o1 ++ s) && decide (y ∈ o))) := by rw [cell_of i5, List.getElem?_toArray, List.getElem?_map, flg2_at _ _ _ _ hy]; rfl
        have f5 := frozen_of i5 y
        have hyi : ((y : Int) < (p.length : Int)) = True := eq_true (by omega)
        have hyb : y ≤ 4096 := by omega
        have FIN : Hid (∀ a : Act, itPost (lvP (h + 1) (hs + 2) hs W2.heap.size) (fun s W => Below h w W ∧ W.heap[h]? = some (.cells #[.slice (some ⟨R, 0, none⟩) p.length p.length] 29 (0, 0)) ∧ W.heap[h + 3]? = some (.cells #[.slice (some ⟨h + 2, 0, none⟩) p.length p.length] 29 (0, 0)) ∧ (∀ D ∈ Ds, h + 4 ≤ D ∧ D < hs ∧ W.heap[D]? = some (.deferred (some []))) ∧ W.heap[h + 2]? = some (flagsO (flg2 p.length (o1 ++ s) o))) (fun _ => False) (s ++ [y]) Wb .normal a ((Wb.setCell ⟨h + 2, y, none⟩ (.bool (decide (y ∈ o)))).drew)) := by
          intro a
          have hT : Turns (fun b => b = h + 2) Wb (Wb.setCell ⟨h + 2, y, none⟩ (.bool (decide (y ∈ o)))).drew := by
            have := Turns.setCell (Q := fun b => b = h + 2) Wb ⟨h + 2, y, none⟩ (.bool (decide (y ∈ o))) rfl
            exact ⟨this.os, this.tape, this.output, this.size, this.block⟩
          refine ⟨hT.size, fun b hb => ?_, hT.below i1 (by rw [← hh]; exact i1.size) (fun b hb hq => by omega), (hT.block _ (lt_of i2) (by omega)).trans i2, (hT.block _ (lt_of i3) (by omega)).trans i3, fun D hD => ?_, ?_⟩
          · by_cases hbs : b < Wb.heap.size
            · exact hT.block b hbs (by rcases hb with h | h | h | h <;> omega)
            · exfalso; rcases hb with h | h | h | h <;> omega
          · obtain ⟨h1, h2, h3⟩ := i4 D hD
            exact ⟨h1, h2, (hT.block D (lt_of h3) (by omega)).trans h3⟩
          · rw [← List.append_assoc, ← flg2_set]; exact set_flags i5 y _
        clear i1 i2 i3 i4 i5 i6
        generalize decide (y ∈ o) = bo at *
        gi_wp2
        refine region_round (by kernel_rfl) (by kernel_rfl) ?_
        refine wpAnyIn_take (i := 1) (v := ?_) rfl rfl (by kernel_rfl) (by kernel_rfl) (by kernel_rfl) (fun _ _ _ h => h) ⟨Or.inl ⟨by rfl, ?_⟩, fun _ => rfl⟩ ?_
        rotate_left 1
        · intro w; go_simp; try with_reducible rfl
        refine wpAnyIn_take (i := 3) (v := ?_) rfl rfl (by kernel_rfl) (by kernel_rfl) (by kernel_rfl) (fun _ _ _ h => h) ⟨Or.inl ⟨by rfl, ?_⟩, fun _ => rfl⟩ ?_
        rotate_left 1
        · intro w; go_simp; try with_reducible rfl
        refine wpAnyIn_ready (rs := [0, 2]) (by kernel_rfl) (by simp) (AllReadyIn.cons rfl (fun K hK => ?_) (AllReadyIn.cons rfl (fun K hK => ?_) (AllReadyIn.nil)))
        · go_simp
          refine hK _ _ ?_
          clear hK K
          refine wpAnyIn_ready (rs := [2]) (by kernel_rfl) (by simp) (AllReadyIn.cons rfl (fun K hK => ?_) (AllReadyIn.nil))
          · go_simp
            refine hK _ _ ?_
            clear hK K
            refine wpAnyIn_take (i := 4) (v := ?_) rfl rfl (by kernel_rfl) (by kernel_rfl) (by kernel_rfl) (fun _ _ _ h => h) ⟨Or.inl ⟨by rfl, ?_⟩, fun _ => rfl⟩ ?_
            rotate_left 1
            · intro w; go_simp; try with_reducible rfl
            refine wpAnyIn_ready (rs := [5]) (by kernel_rfl) (by simp) (AllReadyIn.cons rfl (fun K hK => ?_) (AllReadyIn.nil))
            · go_simp
              refine hK _ _ ?_
              clear hK K
              refine wpAnyIn_take (i := 6) (v := ?_) rfl rfl (by kernel_rfl) (by kernel_rfl) (by kernel_rfl) (fun _ _ _ h => h) ⟨Or.inl ⟨by rfl, ?_⟩, fun _ => rfl⟩ ?_
              rotate_left 1
              · intro w; go_simp; try with_reducible rfl
              refine wpAnyIn_ready (rs := [7]) (by kernel_rfl) (by simp) (AllReadyIn.cons rfl (fun K hK => ?_) (AllReadyIn.nil))
              · go_simp
                refine hK _ _ ?_
                clear hK K
                refine wpAnyIn_done (by kernel_rfl) ?_ _
                exact FIN.out { tmps := #[], defers := [] }
        · go_simp
          refine hK _ _ ?_
          clear hK K
          refine wpAnyIn_take (i := 4) (v := ?_) rfl rfl (by kernel_rfl) (by kernel_rfl) (by kernel_rfl) (fun _ _ _ h => h) ⟨Or.inl ⟨by rfl, ?_⟩, fun _ => rfl⟩ ?_
          rotate_left 1
          · intro w; go_simp; try with_reducible rfl
          refine wpAnyIn_ready (rs := [0, 5]) (by kernel_rfl) (by simp) (AllReadyIn.cons rfl (fun K hK => ?_) (AllReadyIn.cons rfl (fun K hK => ?_) (AllReadyIn.nil)))
          · go_simp
            refine hK _ _ ?_
            clear hK K
            refine wpAnyIn_ready (rs := [5]) (by kernel_rfl) (by simp) (AllReadyIn.cons rfl (fun K hK => ?_) (AllReadyIn.nil))
            · go_simp
              refine hK _ _ ?_
              clear hK K
              refine wpAnyIn_take (i := 6) (v := ?_) rfl rfl (by kernel_rfl) (by kernel_rfl) (by kernel_rfl) (fun _ _ _ h => h) ⟨Or.inl ⟨by rfl, ?_⟩, fun _ => rfl⟩ ?_
              rotate_left 1
              · intro w; go_simp; try with_reducible rfl
              refine wpAnyIn_ready (rs := [7]) (by kernel_rfl) (by simp) (AllReadyIn.cons rfl (fun K hK => ?_) (AllReadyIn.nil))
              · go_simp
                refine hK _ _ ?_
                clear hK K
                refine wpAnyIn_done (by kernel_rfl) ?_ _
                exact FIN.out { tmps := #[], defers := [] }
          · go_simp
            refine hK _ _ ?_
            clear hK K
            refine wpAnyIn_ready (rs := [0]) (by kernel_rfl) (by simp) (AllReadyIn.cons rfl (fun K hK => ?_) (AllReadyIn.nil))
            · go_simp
              refine hK _ _ ?_
              clear hK K
              refine wpAnyIn_take (i := 6) (v := ?_) rfl rfl (by kernel_rfl) (by kernel_rfl) (by kernel_rfl) (fun _ _ _ h => h) ⟨Or.inl ⟨by rfl, ?_⟩, fun _ => rfl⟩ ?_
              rotate_left 1
              · intro w; go_simp; try with_reducible rfl
              refine wpAnyIn_ready (rs := [7]) (by kernel_rfl) (by simp) (AllReadyIn.cons rfl (fun K hK => ?_) (AllReadyIn.nil))
              · go_simp
                refine hK _ _ ?_
                clear hK K
                refine wpAnyIn_done (by kernel_rfl) ?_ _
                exact FIN.out { tmps := #[], defers := [] }
      case hdone =>
        rintro D s W' m' ⟨i1, i2, i3, i4, i5⟩ hw hm' hD hK
        have HIN : Hid (Walk p (ends.take (k + 1)) ((List.replicate p.length false).set head true) m' (o1 ++ s)) := by
          rw [Hid, HTA.out]; exact hw1.append hw
        have HND : Hid ((D :: Ds).Nodup ∧ ∀ D' ∈ D :: Ds, h + 4 ≤ D' ∧ W'.heap[D']? = some (.deferred (some []))) := by
          refine ⟨List.nodup_cons.2 ⟨fun hm => ?_, hnd⟩, fun D' hD' => ?_⟩
          · have := (i4 D hm).2.1; omega
          · rcases List.mem_cons.1 hD' with rfl | hD'
            · exact ⟨by omega, hK⟩
            · exact ⟨(i4 D' hD').1, (i4 D' hD').2.2⟩
        clear hw hw1 hnd hDs
        have hkb : k ≤ 1000000 := by omega
        gi_wp2
        refine ⟨⟨k + 1, D :: Ds, _, _, _, _, _, _, _, _, _, _, _, _, _, _, _, _, _, _, rfl, hkl, HND.out.1, HND.out.2, i1, i2, i3, m', o1 ++ s, HIN.out, hm', i5⟩, ?_⟩
        simp [intOf]; omega
    · have e1 : ((k : Int) < (ends.length : Int)) = False := eq_false (by omega)
      rw [List.take_of_length_le (by omega)] at hw1
      have hout := hw1.out
      have HR : Hid (loopRow p head ends o = head :: (List.range p.length).filter fun x => decide (x ∈ o1) && decide (x ∈ o)) := by
        rw [Hid, loopRow, hout]
      have hsW : h + 4 ≤ W.heap.size := by have := lt_of jx; omega
      clear hw1 hout
      have c2 : W.cell? ⟨h + 1 + 1 + 1, 0, none⟩ = some (.slice (some ⟨h + 2, 0, none⟩) p.length p.length) := cell_of jx 0
      have c3 : (W.alloc (.cells #[.int .i64 (head : Int)] 3)).cell? ⟨h + 1 + 1 + 1, 0, none⟩ = some (.slice (some ⟨h + 2, 0, none⟩) p.length p.length) := (World.cell?_of_block (Below.heap_alloc _ _ _ (by show h + 3 < _; omega))).trans c2
      gi_wp2
      generalize hhs : W.heap.size = hs at *
      have hT0 : Turns (fun b => hs ≤ b) W (W.alloc (.cells #[.int .i64 (head : Int)] 3)) := Turns.alloc _ _ _
      have hO0 : (W.alloc (.cells #[.int .i64 (head : Int)] 3)).ownsRow hs 3 1 (.slice (some ⟨hs, 0, none⟩) 1 1) 1 [.int .i64 (head : Int)] := by
        have := World.ownsRow_lit (base := hs) (e := 3) (size := 1) W #[.int .i64 (head : Int)] 1 (by omega) (by unfold maxLen; omega) rfl
        rwa [hhs] at this
      generalize W.alloc (.cells #[.int .i64 (head : Int)] 3) = W5 at *
      have HLR : Hid (∀ k, (head :: (List.range k).filter fun x => decide (x ∈ o1) && decide (x ∈ o)).length ≤ k + 1 ∧ (head :: (List.range (k + 1)).filter fun x => decide (x ∈ o1) && decide (x ∈ o)) = (head :: (List.range k).filter fun x => decide (x ∈ o1) && decide (x ∈ o)) ++ (if (decide (k ∈ o1) && decide (k ∈ o)) = true then [k] else [])) := fun k => by
        constructor
        · have := List.length_filter_le (fun x => decide (x ∈ o1) && decide (x ∈ o)) (List.range k)
          rw [List.length_range] at this
          simp only [List.length_cons]; omega
        · rw [List.range_succ, List.filter_append, List.cons_append]
          congr 2
          by_cases hc : (decide (k ∈ o1) && decide (k ∈ o)) = true
          · rw [if_pos hc]; simp only [List.filter_cons, List.filter_nil, hc, if_true]
          · rw [if_neg hc]; simp only [List.filter_cons, List.filter_nil, hc]; rfl
      gi_loopw [49, 14] (fun i v wr => ∃ k : Nat, i = .int .i64 k ∧ k ≤ p.length ∧ Turns (fun b => hs ≤ b) W wr ∧ wr.ownsRow hs 3 1 v (head :: (List.range k).filter fun x => decide (x ∈ o1) && decide (x ∈ o)).length (intsV (head :: (List.range k).filter fun x => decide (x ∈ o1) && decide (x ∈ o)))) (fun i _ _ => p.length - (intOf i).toNat)
      case atStart => exact ⟨0, rfl, Nat.zero_le _, hT0, hO0⟩
      case round =>
        obtain ⟨j, rfl, hj, hT, hO⟩ := hrel
        clear hT0 hO0 c2 c3
        by_cases hjl : j < p.length
        · have e2 : ((j : Int) < (p.length : Int)) = True := eq_true (by omega)
          have jw2 : wr.heap[h + 2]? = some (flagsO (flg2 p.length o1 o)) := (hT.block _ (by omega) (by omega)).trans jw
          have c4 : wr.cell? ⟨h + 1 + 1, j, none⟩ = some (.bool (decide (j ∈ o1) && decide (j ∈ o))) := by
            rw [show h + 1 + 1 = h + 2 from rfl, cell_of jw2, List.getElem?_toArray, List.getElem?_map, flg2_at _ _ _ _ hjl]; rfl
          obtain ⟨hL1, hL2⟩ := HLR.out j
          have hsz5 := hT.size
          by_cases hc : (decide (j ∈ o1) && decide (j ∈ o)) = true
          · rw [hc] at c4
            rw [if_pos hc] at hL2
            obtain ⟨bav, bcap, hbv, _⟩ := owns_shape hO
            rw [hbv] at hO
            obtain ⟨g', cp, w', hap, ho, hgb, _, _⟩ := app_int wr 27 hs _ _ _ hO (j : Int) (by omega) (by omega)
            have hT2 := hT.trans (grown_turns hO hgb)
            have HT2 := hide hT2
            have HAP := hide hap
            have ho2 : w'.ownsRow hs 3 1 (.slice (some ⟨g', 0, none⟩) ((head :: (List.range j).filter fun x => decide (x ∈ o1) && decide (x ∈ o)).length + 1) cp) (head :: (List.range (j + 1)).filter fun x => decide (x ∈ o1) && decide (x ∈ o)).length (intsV (head :: (List.range (j + 1)).filter fun x => decide (x ∈ o1) && decide (x ∈ o))) := by
              rw [hL2, show ((head :: (List.range j).filter fun x => decide (x ∈ o1) && decide (x ∈ o)) ++ [j]).length = (head :: (List.range j).filter fun x => decide (x ∈ o1) && decide (x ∈ o)).length + 1 by simp, show intsV ((head :: (List.range j).filter fun x => decide (x ∈ o1) && decide (x ∈ o)) ++ [j]) = intsV (head :: (List.range j).filter fun x => decide (x ∈ o1) && decide (x ∈ o)) ++ [.int .i64 (j : Int)] by simp [intsV]]
              exact ho
            have HO2 := hide ho2
            subst hbv
            clear hO ho ho2 hap hgb hT hT2 hL1 hL2 hc jw2
            generalize (head :: (List.range j).filter fun x => decide (x ∈ o1) && decide (x ∈ o)).length = mm at *
            gi_wp2_with (gi_at_builtin; refine wpListIn_append_run rfl _ _ 27 rfl rfl rfl HAP.out ?_)
            exact ⟨⟨j + 1, by go_num, hjl, HT2.out, HO2.out⟩, by simp [intOf]; omega⟩
          · have hcf : (decide (j ∈ o1) && decide (j ∈ o)) = false := by simpa using hc
            rw [hcf] at c4
            rw [if_neg hc, List.append_nil] at hL2
            rw [← hL2] at hO
            have HO := hide hO
            have HT2 := hide hT
            clear hO hT hL1 hL2 hc hcf jw2
            gi_wp2
            exact ⟨⟨j + 1, by go_num, hjl, HT2.out, HO.out⟩, by simp [intOf]; omega⟩
        · have e2 : ((j : Int) < (p.length : Int)) = False := eq_false (by omega)
          obtain rfl : j = p.length := by omega
          have HOF := hide hO
          obtain ⟨bav, bcap, hbv, _⟩ := owns_shape hO
          subst hbv
          clear hO
          gi_wp2
          have hBr : Below h w wr := hT.below hB (by rw [← hh]; exact hB.size) (fun b hb hq => by omega)
          refine leaves_marks Ds wr hnd (fun D hD => (hT.block D (lt_of (hDs D hD).2) (by have := lt_of (hDs D hD).2; omega)).trans (hDs D hD).2) (fun W' hW' => ?_)
          have hlow : ∀ D ∈ Ds, D < hs := fun D hD => by have := lt_of (hDs D hD).2; omega
          refine ⟨_, by simp [results, Try.results39, go_sem]; rfl, hW'.below (show Below w.heap.size w wr by rw [hh]; exact hBr) hBr.size (fun b hb hq => by have := (hDs b hq).1; omega), _, rfl, ?_⟩
          rw [HR.out]
          have ho2 : wr.ownsRow w.heap.size 3 1 (.slice bav (head :: (List.range p.length).filter fun x => decide (x ∈ o1) && decide (x ∈ o)).length bcap) (head :: (List.range p.length).filter fun x => decide (x ∈ o1) && decide (x ∈ o)).length (intsV (head :: (List.range p.length).filter fun x => decide (x ∈ o1) && decide (x ∈ o))) := by
            refine ⟨HOF.out.1, ?_⟩
            rcases HOF.out.2 with h' | ⟨g', cp, cur, h1, h2, h3⟩
            · exact .inl h'
            · exact .inr ⟨g', cp, cur, h1, by omega, h3⟩
          refine owns_turns ho2 hW' (fun b hb hq => ?_)
          have h1 := (HOF.out.lt b hb).1
          have h2 := hlow b hq
          omega

end Go.Proofs.Ytchnjjdhffmkpaa
