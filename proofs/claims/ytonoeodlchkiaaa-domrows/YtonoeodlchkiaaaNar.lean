/-
  narrow (layer 7): the contract of dom's own.
-/
import Derived.Test.YtonoeodlchkiaaaDomN
import Derived.Test.YtonoeodlchkiaaaRfB
import Derived.Sort.QuietThIn
import Derived.Sort.BigQuietIn
namespace Go.Proofs.Ytonoeodlchkiaaa
open Go.ChangeShapes Go.WideShapes Go.ChangeAt Go.RowKit Go.Shelf

attribute [local go_sem] Oper.semAt_some

/-- A drawn region in a round, whose operations and callees only read. -/
theorem round_quiet_lit {P : Program} {id lp n : Nat} {Q : Exit → Act → World → Prop} {a : Act} {w : World} {l : List Oper} (hm : P.follows .mixedOrders = true) (hd : noDefer l.toArray = true) (hB : Region.lexB .any l.toArray = true)
    (h : wpQuietIn Fence.wide n P l.toArray (fun w' => ∃ n, w' = w.drewN n) (fun a' => ∀ w', (∃ n, w' = w.drewN n) → Q .normal a' w') l a) : (Code.region id l.toArray true).wpIn (Fence.wide.inRound lp) n P Q a w := by
  refine region_round hm hd ?_
  simp only [Region.lexB, Bool.and_eq_true] at hB
  refine wpAnyIn_of_quiet (C := fun w' => ∃ n, w' = w.drewN n) (Q := fun a' => ∀ w', (∃ n, w' = w.drewN n) → Q .normal a' w') rfl (fun _ w' hw' h => h w' hw') _ _ _ _ ⟨1, rfl⟩ ?_
  have := wpAnyQIn_lex (F := Fence.wide) (n := n) (C := fun w' => ∃ n, w' = w.drewN n) (md := .any) hB.1 l.toArray.toList 0 (Array.replicate l.toArray.size false) a (by simp) (by simpa using hB.2) (by simpa using h)
  simpa using this

theorem edgesO_in (n : Nat) (a b : Option Addr) (len cap len2 cap2 : Nat) (w : World) :
    CallsIn Fence.wide n Try.prog 46 #[.slice a len cap, .slice b len2 cap2] w fun e w' => e = .returned (.func (.func 58) #[] #[.pointer (some ⟨w.heap.size + 1, 0, none⟩), .pointer (some ⟨w.heap.size, 0, none⟩)]) ∧
      w'.heap.size = w.heap.size + 2 ∧ Below w.heap.size w w' ∧ w'.heap[w.heap.size]? = some (.cells #[.slice a len cap] 22 (0, 0)) ∧ w'.heap[w.heap.size + 1]? = some (.cells #[.slice b len2 cap2] 25 (0, 0)) := by
  refine callsIn_of_wp Try.func46 rfl trivial ?_ rfl
  simp only [Try.ntmps46, List.size_toArray, List.length_cons, List.length_nil, Nat.reduceAdd, Nat.reduceSub, Array.replicate_succ, Array.replicate_zero, List.push_toArray, List.append_toArray, List.nil_append, List.cons_append]
  gi_wp2
  go_ret
  refine ⟨rfl, by simp, ((Below.refl _ w).alloc (Nat.le_refl _) _).alloc (by simp) _, ?_, ?_⟩
  · rw [Below.heap_alloc _ _ _ (by simp)]; exact World.alloc_heap_new w _
  · have := World.alloc_heap_new (w.alloc (.cells #[.slice a len cap] 22)) (.cells #[.slice b len2 cap2] 25)
    rwa [World.size_alloc] at this

/-- What a sweep keeps in memory. -/
structure NI (g : List (List Nat)) (o : List Nat) (d0 : List Int) (w0 w : World) (av : Option Addr) (cap h Pb Db : Nat) (s : List (Nat × Nat)) (W : World) : Prop where
  bel : Below w0.heap.size w0 W
  tur : Turns (fun b => b = Db ∨ h ≤ b) w W
  k0 : W.heap[h]? = some (.cells #[.slice (some ⟨Pb, 0, none⟩) g.length g.length] 25 (0, 0))
  k1 : W.heap[h + 1]? = some (.cells #[.slice (some ⟨Db, 0, none⟩) g.length g.length] 25 (0, 0))
  k3 : W.heap[h + 3]? = some (.cells #[.slice av g.length cap] 22 (0, 0))
  kd : ∃ d ch, W.heap[Db]? = some (.cells (intsI d).toArray 3 (0, 0)) ∧ W.heap[h + 2]? = some (.cells #[.bool ch] 4 (0, 0)) ∧ NS g o d0 s d ch

theorem ints_at {W : World} {B : Nat} {d : List Int} (h : W.heap[B]? = some (.cells (intsI d).toArray 3 (0, 0))) (x : Nat) (hx : x < d.length) : W.cell? ⟨B, x, none⟩ = some (.int .i64 (ask d x)) := by
  rw [cell_of h, List.getElem?_toArray, List.getElem?_map, List.getElem?_eq_getElem hx]
  unfold ask
  rw [List.getD_eq_getElem?_getD, List.getElem?_eq_getElem hx]; rfl
theorem ints_put {W : World} {B : Nat} {d : List Int} (h : W.heap[B]? = some (.cells (intsI d).toArray 3 (0, 0))) (x : Nat) (v : Int) : (W.setCell ⟨B, x, none⟩ (.int .i64 v)).heap[B]? = some (.cells (intsI (d.set x v)).toArray 3 (0, 0)) := by
  rw [intsI, List.map_set]; exact heap_set_same h x _

set_option maxRecDepth 100000 in
set_option maxHeartbeats 8000000 in
theorem narrow_is (av : Option Addr) (cap blk off : Nat) (hd : Nat → Hdr) (g : List (List Nat)) (hgr : Right g) (o : List Nat) (ho : Ord g o) (OB ocap Pb Db ln : Nat) (hln : ln = o.reverse.length) (d0 : List Int) (htr : Tr g o d0) (w0 w : World) (hG : GAt w0 av blk off hd (castG g)) (hb0 : Below w0.heap.size w0 w)
    (hDb : w0.heap.size ≤ Db) (hOD : OB ≠ Db) (hPD : Pb ≠ Db) (hOl : OB < w.heap.size) (hPl : Pb < w.heap.size)
    (hO : ∀ k, k < o.reverse.length → w.cell? ⟨OB, k, none⟩ = some (.int .i64 ((o.reverse.getD k 0 : Nat) : Int))) (hP : ∀ x, x ∈ o → w.cell? ⟨Pb, x, none⟩ = some (.int .i64 (plI o.reverse x))) (hD : w.heap[Db]? = some (.cells (intsI d0).toArray 3 (0, 0))) :
    Calls Try.prog 27 #[.slice av g.length cap, .slice (some ⟨OB, 0, none⟩) ln ocap, .slice (some ⟨Pb, 0, none⟩) g.length g.length, .slice (some ⟨Db, 0, none⟩) g.length g.length] w fun e w' =>
      Turns (fun b => b = Db ∨ w.heap.size ≤ b) w w' ∧ ∃ d ch, e = .returned (.bool ch) ∧ w'.heap[Db]? = some (.cells (intsI d).toArray 3 (0, 0)) ∧ NS g o d0 (edO g o.reverse o.reverse.length 0) d ch := by
  refine (callsIn_wide (n := 0)).1 ?_
  have hmost := hgr.most
  have hDl := lt_of hD
  have hol : o.reverse.length ≤ 4096 := by
    have h2 := ho.nodup.length_le_of_subset (l₂ := List.range g.length) (fun x hx => List.mem_range.2 (ho.lt x hx))
    rw [List.length_range] at h2
    rw [List.length_reverse]; omega
  have HG := hide hG
  have HO := hide hO
  have HP := hide hP
  have HD := hide hD
  have HTR := hide htr
  have HORD := hide ho
  have HLN := hide hln
  clear hG hO hP hD htr ho hln hol
  refine callsIn_of_wp_marks Try.func27 rfl trivial ?_
  simp only [Try.ntmps27, List.size_toArray, List.length_cons, List.length_nil, Nat.reduceAdd, Nat.reduceSub, Array.replicate_succ, Array.replicate_zero, List.push_toArray, List.append_toArray, List.nil_append, List.cons_append]
  gi_wp2
  generalize hW : (((w.alloc (.cells #[.slice (some ⟨Pb, 0, none⟩) g.length g.length] 25)).alloc (.cells #[.slice (some ⟨Db, 0, none⟩) g.length g.length] 25)).alloc (.cells #[.bool false] 4)) = w2
  have kk : Below w.heap.size w w2 ∧ w2.heap.size = w.heap.size + 3 ∧ w2.heap[w.heap.size]? = some (.cells #[.slice (some ⟨Pb, 0, none⟩) g.length g.length] 25 (0, 0)) ∧ w2.heap[w.heap.size + 1]? = some (.cells #[.slice (some ⟨Db, 0, none⟩) g.length g.length] 25 (0, 0)) ∧ w2.heap[w.heap.size + 2]? = some (.cells #[.bool false] 4 (0, 0)) := by
    rw [← hW]
    refine ⟨(((Below.refl _ w).alloc (Nat.le_refl _) _).alloc (by simp) _).alloc (by simp; omega) _, by simp, ?_, ?_, ?_⟩
    · rw [Below.heap_alloc _ _ _ (by simp; omega), Below.heap_alloc _ _ _ (by simp)]; exact World.alloc_heap_new w _
    · rw [Below.heap_alloc _ _ _ (by simp)]
      have := World.alloc_heap_new (w.alloc (.cells #[.slice (some ⟨Pb, 0, none⟩) g.length g.length] 25)) (.cells #[.slice (some ⟨Db, 0, none⟩) g.length g.length] 25)
      rwa [World.size_alloc] at this
    · have := World.alloc_heap_new ((w.alloc (.cells #[.slice (some ⟨Pb, 0, none⟩) g.length g.length] 25)).alloc (.cells #[.slice (some ⟨Db, 0, none⟩) g.length g.length] 25)) (.cells #[.bool false] 4)
      rwa [World.size_alloc, World.size_alloc] at this
  obtain ⟨hb2, hs2, k0, k1, k2⟩ := kk
  clear hW
  generalize hh : w.heap.size = h at *
  refine ⟨by trivial, by trivial, (edgesO_in 0 _ _ _ _ _ _ _).mono ?_⟩
  rintro e w3 ⟨rfl, hs3, hb3, k3, k4⟩
  rw [hs2] at hs3 hb3 k3 k4 ⊢
  have hNI : NI g o d0 w0 w av cap h Pb Db [] w3 :=
    ⟨(hb0.trans (hb2.mono (by have := hb0.size; omega))).trans (hb3.mono (by have := hb0.size; omega)), (Turns.of_below hb2).mono (fun b hb => .inr (by omega)) |>.trans ((Turns.of_below hb3).mono (fun b hb => .inr (by omega))), (hb3.block _ (by omega)).trans k0, (hb3.block _ (by omega)).trans k1, k3,
      d0, false, (hb3.block _ (by omega)).trans ((hb2.block _ (by omega)).trans HD.out), (hb3.block _ (by omega)).trans k2, ns_start HTR.out⟩
  have k4' : w3.heap[h + 4]? = some (.cells #[.slice (some ⟨OB, 0, none⟩) o.reverse.length ocap] 25 (0, 0)) := by rw [← HLN.out]; exact k4
  have HN0 := hide hNI
  have HK4 := hide k4'
  clear k0 k1 k2 k3 k4 k4' hb2 hb3 hNI
  gi_wp2
  refine range_it (α := Nat × Nat) (kk := 0) (gf := 58) (lb := #[.pointer (some ⟨h + 4, 0, none⟩), .pointer (some ⟨h + 3, 0, none⟩)]) (P := fun _ => False) (Rd := fun W => GAt W av blk off hd (castG g) ∧ (∀ k, k < o.reverse.length → W.cell? ⟨OB, k, none⟩ = some (.int .i64 ((o.reverse.getD k 0 : Nat) : Int))) ∧ W.heap[h + 3]? = some (.cells #[.slice av g.length cap] 22 (0, 0))) (V := nextO g o.reverse) (S := fun s _ => s = edO g o.reverse o.reverse.length 0) (enc := encP) rfl enter58 (fun _ => rfl) (fun _ _ _ h _ => h) (fun _ h => h.elim)
    (fun W1 hb hs => edgesO_gives (h + 3) (h + 4) blk off cap OB ocap hd g o.reverse av hgr ?g1 ?g2 W1 _ ?g3)
    (fun s W => NI g o d0 w0 w av cap h Pb Db s W) (fun _ => False) ?hI (fun _ _ h _ => h) ?hRd HN0.out ?hround ?hdone (fun _ _ h => h.elim)
  case g1 =>
    have h2 := HORD.out.nodup.length_le_of_subset (l₂ := List.range g.length) (fun x hx => List.mem_range.2 (HORD.out.lt x hx))
    rw [List.length_range] at h2
    rw [List.length_reverse]; omega
  case g2 => exact fun x hx => HORD.out.lt x (List.mem_reverse.1 hx)
  case g3 => exact (hb.block _ (by omega)).trans HK4.out
  case hI =>
    rintro s W W' ⟨i1, i2, i3, i4, i5, d, ch, i6, i7, i8⟩ ht
    have hq : ∀ b, b < h + 5 → ¬ (False ∨ b = w3.heap.size + 1) := fun b hb h => by rcases h with h | h; exact h; omega
    have hs0 := hb0.size
    have := lt_of i3
    have := lt_of i4
    have := lt_of i5
    have := lt_of i6
    have := lt_of i7
    exact ⟨ht.below i1 i1.size (fun b hb => hq b (by omega)), i2.trans (ht.mono fun b hb => .inr (by rcases hb with hb | hb; exact hb.elim; omega)), (ht.block _ (by omega) (hq _ (by omega))).trans i3, (ht.block _ (by omega) (hq _ (by omega))).trans i4, (ht.block _ (by omega) (hq _ (by omega))).trans i5,
      d, ch, (ht.block _ (by omega) (hq _ (by omega))).trans i6, (ht.block _ (by omega) (hq _ (by omega))).trans i7, i8⟩
  case hRd =>
    rintro s W ⟨i1, i2, i3, i4, i5, _⟩
    exact ⟨HG.out.below i1, fun k hk => (World.cell?_of_block (i2.block OB (by omega) (by show ¬ (OB = Db ∨ h ≤ OB); omega))).trans (HO.out k hk), i5⟩
  case hround =>
    rintro lp s ⟨f, t⟩ W K hv hK
    have HK := hide hK
    clear hK
    gi_wp2
    refine HK.out _ ?_
    clear HK HN0 HK4
    rintro Wb ⟨i1, i2, i3, i4, i5, d, ch, i6, i7, i8⟩ hsz
    have hat := i8.at_ HORD.out hv
    have hto := HORD.out.cl f hat.told.1 t hat.edge
    have htl := HORD.out.lt t hto
    have hfl := HORD.out.lt f hat.told.1
    have hdl := i8.tr.len
    have hs5 : h + 5 ≤ Wb.heap.size := by omega
    have cp : Wb.cell? ⟨h, 0, none⟩ = some (.slice (some ⟨Pb, 0, none⟩) g.length g.length) := cell_of i3 0
    have ci : Wb.cell? ⟨h + 1, 0, none⟩ = some (.slice (some ⟨Db, 0, none⟩) g.length g.length) := cell_of i4 0
    have ct := ints_at i6 t (by omega)
    have hti : ((t : Int) < (g.length : Int)) = True := eq_true (by omega)
    have htb : t ≤ 4096 := by omega
    have hfb : f ≤ 4096 := by omega
    have HIDE : Hid (Wb.heap[Db]? = some (.cells (intsI d).toArray 3 (0, 0)) ∧ Wb.heap[h + 2]? = some (.cells #[.bool ch] 4 (0, 0)) ∧ Below w0.heap.size w0 Wb ∧ Turns (fun b => b = Db ∨ h ≤ b) w Wb ∧ Wb.heap[h]? = some (.cells #[.slice (some ⟨Pb, 0, none⟩) g.length g.length] 25 (0, 0)) ∧ Wb.heap[h + 1]? = some (.cells #[.slice (some ⟨Db, 0, none⟩) g.length g.length] 25 (0, 0)) ∧ Wb.heap[h + 3]? = some (.cells #[.slice av g.length cap] 22 (0, 0))) := ⟨i6, i7, i1, i2, i3, i4, i5⟩
    have HOUT : Hid (∀ q, NI g o d0 w0 w av cap h Pb Db (s ++ [(f, t)]) (Wb.drewN q) → itPost (fun b => False ∨ b = w3.heap.size ∨ b = w3.heap.size + 1) (fun s W => NI g o d0 w0 w av cap h Pb Db s W) (fun _ => False) (s ++ [(f, t)]) Wb .normal { tmps := #[], defers := [] } (Wb.drewN q)) := fun q hn => ⟨Nat.le_refl _, fun b _ => rfl, hn⟩
    have HPUT : Hid (∀ (q : Nat) (c : Nat), NS g o d0 (s ++ [(f, t)]) (d.set t (c : Int)) true → itPost (fun b => False ∨ b = w3.heap.size ∨ b = w3.heap.size + 1) (fun s W => NI g o d0 w0 w av cap h Pb Db s W) (fun _ => False) (s ++ [(f, t)]) Wb .normal { tmps := #[], defers := [] } (((Wb.drewN q).setCell ⟨Db, t, none⟩ (.int .i64 (c : Int))).setCell ⟨h + 2, 0, none⟩ (.bool true))) := fun q c hn => by
      obtain ⟨j6, j7, j1, j2, j3, j4, j5⟩ := HIDE.out
      have l0 := lt_of j3
      have T1 : Turns (fun b => b = Db ∨ b = h + 2) Wb (((Wb.drewN q).setCell ⟨Db, t, none⟩ (.int .i64 (c : Int))).setCell ⟨h + 2, 0, none⟩ (.bool true)) := by
        have a1 := Turns.setCell (Q := fun b => b = Db ∨ b = h + 2) (Wb.drewN q) ⟨Db, t, none⟩ (.int .i64 (c : Int)) (.inl rfl)
        have a2 := Turns.setCell (Q := fun b => b = Db ∨ b = h + 2) ((Wb.drewN q).setCell ⟨Db, t, none⟩ (.int .i64 (c : Int))) ⟨h + 2, 0, none⟩ (.bool true) (.inr rfl)
        have a3 := a1.trans a2
        exact ⟨a3.os, a3.tape, a3.output, a3.size, a3.block⟩
      have kD : (((Wb.drewN q).setCell ⟨Db, t, none⟩ (.int .i64 (c : Int))).setCell ⟨h + 2, 0, none⟩ (.bool true)).heap[Db]? = some (.cells (intsI (d.set t (c : Int))).toArray 3 (0, 0)) :=
        (Below.heap_setCell _ _ _ _ (by show Db ≠ h + 2; omega)).trans (ints_put (W := Wb.drewN q) j6 t c)
      have kC : (((Wb.drewN q).setCell ⟨Db, t, none⟩ (.int .i64 (c : Int))).setCell ⟨h + 2, 0, none⟩ (.bool true)).heap[h + 2]? = some (.cells #[.bool true] 4 (0, 0)) := by
        have a1 : ((Wb.drewN q).setCell ⟨Db, t, none⟩ (.int .i64 (c : Int))).heap[h + 2]? = some (.cells [Value.bool ch].toArray 4 (0, 0)) := (Below.heap_setCell _ _ _ _ (by show h + 2 ≠ Db; omega)).trans j7
        exact heap_set_same a1 0 (.bool true)
      refine ⟨T1.size, fun b hb => T1.block b (by rcases hb with hb | hb | hb; exact hb.elim; omega; omega) (by rcases hb with hb | hb | hb; exact hb.elim; omega; omega), T1.below j1 j1.size (fun b hb hq => by have := hb0.size; omega), j2.trans (T1.mono fun b hb => by rcases hb with hb | hb; exact .inl hb; exact .inr (by omega)), ?_, ?_, ?_, _, true, kD, kC, hn⟩
      · exact (T1.block h (by omega) (by omega)).trans j3
      · exact (T1.block (h + 1) (by omega) (by omega)).trans j4
      · exact (T1.block (h + 3) (by omega) (by omega)).trans j5
    have HFZ : Hid (∀ (q : Nat) (v : Value), ((Wb.drewN q).setCell ⟨Db, t, none⟩ v).frozen? ⟨h + 2, 0, none⟩ = false ∧ ((Wb.drewN q).setCell ⟨Db, t, none⟩ v).cell? ⟨h + 2, 0, none⟩ = some (.bool ch)) := fun q v => by
      have a1 : ((Wb.drewN q).setCell ⟨Db, t, none⟩ v).heap[h + 2]? = some (.cells #[.bool ch] 4 (0, 0)) := (Below.heap_setCell _ _ _ _ (by show h + 2 ≠ Db; omega)).trans HIDE.out.2.1
      exact ⟨frozen_of a1 0, cell_of a1 0⟩
    have fD : Wb.frozen? ⟨Db, t, none⟩ = false := frozen_of i6 t
    by_cases h0 : t = 0
    · subst h0
      have HF : Hid (NI g o d0 w0 w av cap h Pb Db (s ++ [(f, 0)]) Wb) := ⟨i1, i2, i3, i4, i5, d, ch, i6, i7, i8.skip f⟩
      clear i1 i2 i3 i4 i5 i6 i7 i8 HIDE HOUT HPUT HFZ hat hv
      gi_wp2
      exact ⟨Nat.le_refl _, fun b _ => rfl, HF.out⟩
    · have e0 : ((t : Int) == 0) = false := by simp; omega
      have e0' : ((t : Int) = 0) = False := eq_false (by omega)
      by_cases hn : ask d t = -1
      · have HF := hide (HPUT.out 0 f (i8.fresh HORD.out hat h0 hn))
        obtain ⟨z1, z2⟩ := HFZ.out 0 (.int .i64 (f : Int))
        rw [show Wb.drewN 0 = Wb from rfl] at HF z1 z2
        rw [hn] at ct
        have e1 : ((f : Int) != -1) = true := bne_iff_ne.2 (by omega)
        have e1' : ((f : Int) = -1) = False := eq_false (by omega)
        clear i1 i2 i3 i4 i5 i6 i7 i8 HIDE HOUT HPUT HFZ hat hv hn h0
        gi_wp2
        exact HF.out
      · obtain ⟨_, _, y, hy, hyo, hyl, hyd⟩ := i8.tr.up t hn
        have hyt : Told o d y := ⟨hyo, hyd⟩
        obtain ⟨c, hc⟩ := meets_ex HORD.out i8.tr _ y f (Nat.le_refl _) hyt hat.told
        obtain ⟨m1, m2⟩ := i8.met HORD.out hat h0 hy hc
        have hcl := HORD.out.lt c (i8.tr.anc (hc.told HORD.out i8.tr hyt hat.told).1 hyt).1.1
        have hylt := HORD.out.lt y hyo
        rw [hy] at ct
        have e1 : ((y : Int) != -1) = true := bne_iff_ne.2 (by omega)
        have e1' : ((y : Int) = -1) = False := eq_false (by omega)
        have HM : Hid (∀ q, CallsIn Fence.wide 0 Try.prog 47 #[.slice (some ⟨Pb, 0, none⟩) g.length g.length, .slice (some ⟨Db, 0, none⟩) g.length g.length, .int .i64 (y : Int), .int .i64 (f : Int)] (Wb.drewN q) fun e w' => e = .returned (.int .i64 (c : Int)) ∧ ∃ q', w' = (Wb.drewN q).drewN q') := fun q =>
          callsIn_wide.2 (meet_is g o HORD.out d i8.tr hmost Pb Db y f c hyt hat.told hc (Wb.drewN q) (fun x hx => (World.cell?_of_block (i2.block Pb (by omega) (by show ¬ (Pb = Db ∨ h ≤ Pb); omega))).trans (HP.out x hx)) (fun x hx => ints_at (W := Wb.drewN q) i6 x (by omega)))
        by_cases hcy : c = y
        · have HF : Hid (∀ q, itPost (fun b => False ∨ b = w3.heap.size ∨ b = w3.heap.size + 1) (fun s W => NI g o d0 w0 w av cap h Pb Db s W) (fun _ => False) (s ++ [(f, t)]) Wb .normal { tmps := #[], defers := [] } (Wb.drewN q)) := fun q => HOUT.out q ⟨⟨i1.os, i1.tape, i1.output, i1.size, i1.block⟩, ⟨i2.os, i2.tape, i2.output, i2.size, i2.block⟩, i3, i4, i5, d, ch, i6, i7, m1 hcy⟩
          rw [hcy] at HM
          clear i1 i2 i3 i4 i5 i6 i7 i8 HIDE HOUT HPUT HFZ hat hv hn h0 m1 m2 hc hyt hcy hy hyd
          gi_wp2
          refine round_quiet_lit (by kernel_rfl) (by kernel_rfl) (by kernel_rfl) ?_
          repeat (gi_big_quiet_step (fail))
          refine wpQuietIn_step ?asked (fun K hK => ?_)
          case asked => intro w _ f hf; trivial
          go_simp
          apply Exists.intro
          refine ⟨fun _ => ?_, hK _ ?_⟩
          · exact ⟨rfl, CallsIn.quiet_of (HM.out _)⟩
          clear hK K
          repeat (gi_big_quiet_step (fail))
          refine wpQuietIn_nil ?_
          intro _ hw'
          obtain ⟨nq, hw''⟩ := hw'
          subst hw''
          gi_wp2
          exact HF.out nq
        · have HF : Hid (∀ q, _) := fun q => HPUT.out q c (m2 hcy)
          have e2 : ((c : Int) != (y : Int)) = true := by simp; omega
          have e2' : ((c : Int) = (y : Int)) = False := eq_false (by omega)
          clear i1 i2 i3 i4 i5 i6 i7 i8 HIDE HOUT HPUT hat hv hn h0 m1 m2 hc hyt hcy hy hyd
          gi_wp2
          refine round_quiet_lit (by kernel_rfl) (by kernel_rfl) (by kernel_rfl) ?_
          repeat (gi_big_quiet_step (fail))
          refine wpQuietIn_step ?asked (fun K hK => ?_)
          case asked => intro w _ f hf; trivial
          go_simp
          apply Exists.intro
          refine ⟨fun _ => ?_, hK _ ?_⟩
          · exact ⟨rfl, CallsIn.quiet_of (HM.out _)⟩
          clear hK K
          repeat (gi_big_quiet_step (fail))
          refine wpQuietIn_nil ?_
          intro _ hw'
          obtain ⟨nq, hw''⟩ := hw'
          subst hw''
          obtain ⟨z1, z2⟩ := HFZ.out nq (.int .i64 (c : Int))
          gi_wp2
          exact HF.out nq
  case hdone =>
    rintro D s W ⟨i1, i2, i3, i4, i5, d, ch, i6, i7, i8⟩ hS hD hK
    have c1 : W.cell? ⟨h + 2, 0, none⟩ = some (.bool ch) := cell_of i7 0
    rw [hS] at i8
    have HF := hide i8
    have HD6 := hide i6
    clear i8 i6
    have hl6 := lt_of HD6.out
    gi_wp2
    refine ⟨by simp, .inl ⟨_, _, rfl, run_takeDeferred hK, ?_⟩⟩
    refine ⟨.bool ch, by simp [results, Try.results27, go_sem], ?_, d, ch, rfl, ?_, HF.out⟩
    · rw [hh]; exact i2.trans (Turns.putObj W D _ (.inr (by omega)))
    · exact (World.putObj_heap_other (by omega)).trans HD6.out

end Go.Proofs.Ytonoeodlchkiaaa
