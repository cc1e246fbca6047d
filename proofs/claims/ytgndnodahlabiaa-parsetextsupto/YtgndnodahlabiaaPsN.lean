/-
  A primary and what stands behind it (layer 10): the contract of the parser's part.
-/
import Derived.Test.YtgndnodahlabiaaMgF
namespace Go.Proofs.Ytgndnodahlabiaa
open Go.ChangeShapes Go.WideShapes Go.ChangeAt Go.RowKit

theorem bel_d (W : World) : Below W.heap.size W W.drew := ⟨rfl, rfl, rfl, Nat.le_refl _, fun _ _ => rfl⟩
theorem Bx0.fr {W0 W : World} {P : Nat} {av : Option Addr} {cap blk off : Nat} {ts : List Tok} {s : St} {r : Nat} (h : Bx0 W0 P av cap blk off ts s r W) (x0 x1 x2 x3 : Value) :
    Fr W0 P av cap blk off ts s r W.heap.size x0 x1 x2 x3 (W.alloc (.cells #[x0, x1, x2, x3] 24)) :=
  have hb := bel_new W (.cells #[x0, x1, x2, x3] 24)
  ⟨h.par.below hb, (hb.block _ (lt_of h.res)).trans h.res, World.alloc_heap_new W _, h.tur.trans (turns_b hb), lt_of h.res, h.ne, h.bk⟩
/-- Where a node's parts may lie: behind the beginning, but in its own box. -/
abbrev DK (W0 : World) (b1 : Nat) : Nat → Prop := fun b => W0.heap.size < b ∧ b ≠ b1
/-- A node in its box. -/
structure FrN (W0 : World) (P : Nat) (av : Option Addr) (cap blk off : Nat) (ts : List Tok) (s : St) (r b1 : Nat) (n : Nv) (W : World) : Prop where
  fr : ∀ k t a nav ncap nblk noff ks, n = .mk k t a nav ncap nblk noff ks → Fr W0 P av cap blk off ts s r b1 (.int .i64 k) (.string (bs t)) (.int .i64 a) (.slice nav ks.length ncap) W
  li : LiesD (DK W0 b1) W n
theorem FrN.step {W0 W W' : World} {P : Nat} {av : Option Addr} {cap blk off : Nat} {ts : List Tok} {s s' : St} {r b1 : Nat} {n : Nv} (h : FrN W0 P av cap blk off ts s r b1 n W) (p : ParAt W' P av cap blk off ts s' r) (t : Turns (fun b => b = P) W W') : FrN W0 P av cap blk off ts s' r b1 n W' :=
  ⟨fun k tx a nav ncap nblk noff ks e => (h.fr k tx a nav ncap nblk noff ks e).step p t, h.li.turns t (fun b hb _ => by
    obtain ⟨k, tx, a, nav, ncap, nblk, noff, ks⟩ := n
    have := (h.fr _ _ _ _ _ _ _ _ rfl).ne
    have := hb.1
    omega)⟩
/-- The end: the node goes into the result's box. -/
theorem Fr.finD {W0 W : World} {P : Nat} {av : Option Addr} {cap blk off : Nat} {ts : List Tok} {s s0 : St} {r b1 : Nat} {w : Pa} {k : Int} {t : List UInt8} {a : Int} {nav : Option Addr} {ncap nblk noff : Nat} {ks : List Nv} (h : Fr W0 P av cap blk off ts s r b1 (.int .i64 k) (.string (bs t)) (.int .i64 a) (.slice nav ks.length ncap) W)
    (hl : LiesD (DK W0 b1) W (.mk k t a nav ncap nblk noff ks)) (hw : w s0 = ((Nv.mk k t a nav ncap nblk noff ks).nd, s)) :
    PaAns P av cap blk off ts r w s0 W0 (.returned (.agg #[.int .i64 k, .string (bs t), .int .i64 a, .slice nav ks.length ncap])) ((((W.setCell ⟨W0.heap.size, 0, none⟩ (.int .i64 k)).setCell ⟨W0.heap.size, 1, none⟩ (.string (bs t))).setCell ⟨W0.heap.size, 2, none⟩ (.int .i64 a)).setCell ⟨W0.heap.size, 3, none⟩ (.slice nav ks.length ncap)) := by
  have hl2 := h.lt
  have hn := h.ne
  obtain ⟨q1, q2⟩ := put4 (b := W0.heap.size) (v0 := .int .i64 k) (v1 := .string (bs t)) (v2 := .int .i64 a) (v3 := .slice nav ks.length ncap) h.tur (Nat.le_refl _)
  exact ⟨.mk k t a nav ncap nblk noff ks, rfl, (hl.turns q2 (fun c hc _ => by have := hc.1; omega)).mono (fun c hc _ => by have := hc.1; omega), by rw [hw], by rw [hw]; exact h.par.turns2 q2 (by omega) (fun h0 => by have := h.bk h0; omega), q1⟩

theorem rowD_two {D : Nat → Prop} {W : World} (n m : Nv) (hD : D W.heap.size) : RowD D (W.alloc (.cells (n.cs ++ m.cs).toArray 24)) (some ⟨W.heap.size, 0, none⟩) W.heap.size 0 [n, m] := by
  have hk := World.alloc_heap_new W (.cells (n.cs ++ m.cs).toArray 24)
  refine ⟨fun _ => rfl, fun _ => ⟨hD, by simp⟩, fun i f hi hf => ?_⟩
  obtain ⟨k, t, a, nav, ncap, nblk, noff, ks⟩ := n
  rw [cell_of hk]
  rcases (show i = 0 ∨ i = 1 by simp at hi; omega) with rfl | rfl
  · simp only [List.getElem?_toArray, List.getElem_cons_zero]
    rw [List.getElem?_append_left (by simp; omega)]
    simp
  · simp only [List.getElem?_toArray, List.getElem_cons_succ, List.getElem_cons_zero]
    rw [List.getElem?_append_right (by simp)]
    simp
theorem rowD_one {D : Nat → Prop} {W : World} (n : Nv) (hD : D W.heap.size) : RowD D (W.alloc (.cells n.cs.toArray 24)) (some ⟨W.heap.size, 0, none⟩) W.heap.size 0 [n] := by
  have hk := World.alloc_heap_new W (.cells n.cs.toArray 24)
  refine ⟨fun _ => rfl, fun _ => ⟨hD, by simp⟩, fun i f hi hf => ?_⟩
  obtain rfl : i = 0 := by simp at hi; omega
  rw [cell_of hk]
  simp
theorem turns_set4 (b : Nat) (W : World) (v0 v1 v2 v3 : Value) : Turns (fun c => c = b) W ((((W.setCell ⟨b, 0, none⟩ v0).setCell ⟨b, 1, none⟩ v1).setCell ⟨b, 2, none⟩ v2).setCell ⟨b, 3, none⟩ v3) :=
  ((((turns_p b 0 v0 W).trans (turns_p b 1 v1 _)).trans (turns_p b 2 v2 _)).trans (turns_p b 3 v3 _))
/-- A node is made of the one in the box and another one, and goes into the box. -/
theorem FrN.bin {W0 W W5 : World} {P : Nat} {av : Option Addr} {cap blk off : Nat} {ts : List Tok} {s s5 : St} {r b1 : Nat} {k : Int} {t : List UInt8} {a : Int} {nav : Option Addr} {ncap nblk noff : Nat} {ks : List Nv} {k2 : Int} {t2 : List UInt8} {a2 : Int} {nav2 : Option Addr} {ncap2 nblk2 noff2 : Nat} {ks2 : List Nv}
    (h : FrN W0 P av cap blk off ts s r b1 (.mk k t a nav ncap nblk noff ks) W) (p5 : ParAt W5 P av cap blk off ts s5 r) (t5 : Turns (fun b => b = P) W W5) (hl : Lies W.heap.size W5 (.mk k2 t2 a2 nav2 ncap2 nblk2 noff2 ks2)) (K : Int) (T : List UInt8) :
    FrN W0 P av cap blk off ts s5 r b1 (.mk K T a (some ⟨W5.heap.size, 0, none⟩) 2 W5.heap.size 0 [.mk k t a nav ncap nblk noff ks, .mk k2 t2 a2 nav2 ncap2 nblk2 noff2 ks2])
      (((((W5.alloc (.cells #[.int .i64 k, .string (bs t), .int .i64 a, .slice nav ks.length ncap, .int .i64 k2, .string (bs t2), .int .i64 a2, .slice nav2 ks2.length ncap2] 24)).setCell ⟨b1, 0, none⟩ (.int .i64 K)).setCell ⟨b1, 1, none⟩ (.string (bs T))).setCell ⟨b1, 2, none⟩ (.int .i64 a)).setCell ⟨b1, 3, none⟩ (.slice (some ⟨W5.heap.size, 0, none⟩) 2 2)) := by
  have F := h.fr _ _ _ _ _ _ _ _ rfl
  have F5 := F.step p5 t5
  have hlt := lt_of F.nod
  have hlt5 := lt_of F5.nod
  have hb := F.lt
  have hn := F.ne
  have F6 := F5.below (bel_new W5 (.cells #[.int .i64 k, .string (bs t), .int .i64 a, .slice nav ks.length ncap, .int .i64 k2, .string (bs t2), .int .i64 a2, .slice nav2 ks2.length ncap2] 24))
  have F7 := F6.set4 (.int .i64 K) (.string (bs T)) (.int .i64 a) (.slice (some ⟨W5.heap.size, 0, none⟩) 2 2)
  have T7 := turns_set4 b1 (W5.alloc (.cells #[.int .i64 k, .string (bs t), .int .i64 a, .slice nav ks.length ncap, .int .i64 k2, .string (bs t2), .int .i64 a2, .slice nav2 ks2.length ncap2] 24)) (.int .i64 K) (.string (bs T)) (.int .i64 a) (.slice (some ⟨W5.heap.size, 0, none⟩) 2 2)
  have TA := Turns.alloc (fun c => c = b1) W5 (.cells #[.int .i64 k, .string (bs t), .int .i64 a, .slice nav ks.length ncap, .int .i64 k2, .string (bs t2), .int .i64 a2, .slice nav2 ks2.length ncap2] 24)
  refine ⟨fun k' t' a' nav' ncap' nblk' noff' ks' e => ?_, .mk ?_ (fun x hx => ?_) (Nat.le_refl _)⟩
  · cases e; exact F7
  · have R := rowD_two (D := DK W0 b1) (W := W5) (.mk k t a nav ncap nblk noff ks) (.mk k2 t2 a2 nav2 ncap2 nblk2 noff2 ks2) ⟨by omega, by omega⟩
    exact R.turns T7 (fun b hb _ => hb.2)
  · rcases (show x = _ ∨ x = _ by simpa using hx) with rfl | rfl
    · exact (h.li.turns t5 (fun b hb _ => by have := hb.1; omega)).turns (TA.trans T7) (fun b hb _ => hb.2)
    · exact (LiesD.mono hl (fun b hb _ => ⟨by omega, by omega⟩)).turns (TA.trans T7) (fun b hb _ => hb.2)
/-- A node is made of the one in the box alone. -/
theorem FrN.one {W0 W W5 : World} {P : Nat} {av : Option Addr} {cap blk off : Nat} {ts : List Tok} {s s5 : St} {r b1 : Nat} {k : Int} {t : List UInt8} {a : Int} {nav : Option Addr} {ncap nblk noff : Nat} {ks : List Nv}
    (h : FrN W0 P av cap blk off ts s r b1 (.mk k t a nav ncap nblk noff ks) W) (p5 : ParAt W5 P av cap blk off ts s5 r) (t5 : Turns (fun b => b = P) W W5) (K : Int) (T : List UInt8) :
    FrN W0 P av cap blk off ts s5 r b1 (.mk K T a (some ⟨W5.heap.size, 0, none⟩) 1 W5.heap.size 0 [.mk k t a nav ncap nblk noff ks])
      (((((W5.alloc (.cells #[.int .i64 k, .string (bs t), .int .i64 a, .slice nav ks.length ncap] 24)).setCell ⟨b1, 0, none⟩ (.int .i64 K)).setCell ⟨b1, 1, none⟩ (.string (bs T))).setCell ⟨b1, 2, none⟩ (.int .i64 a)).setCell ⟨b1, 3, none⟩ (.slice (some ⟨W5.heap.size, 0, none⟩) 1 1)) := by
  have F := h.fr _ _ _ _ _ _ _ _ rfl
  have F5 := F.step p5 t5
  have hlt5 := lt_of F5.nod
  have hb := F.lt
  have hn := F.ne
  have F6 := F5.below (bel_new W5 (.cells #[.int .i64 k, .string (bs t), .int .i64 a, .slice nav ks.length ncap] 24))
  have F7 := F6.set4 (.int .i64 K) (.string (bs T)) (.int .i64 a) (.slice (some ⟨W5.heap.size, 0, none⟩) 1 1)
  have T7 := turns_set4 b1 (W5.alloc (.cells #[.int .i64 k, .string (bs t), .int .i64 a, .slice nav ks.length ncap] 24)) (.int .i64 K) (.string (bs T)) (.int .i64 a) (.slice (some ⟨W5.heap.size, 0, none⟩) 1 1)
  have TA := Turns.alloc (fun c => c = b1) W5 (.cells #[.int .i64 k, .string (bs t), .int .i64 a, .slice nav ks.length ncap] 24)
  refine ⟨fun k' t' a' nav' ncap' nblk' noff' ks' e => ?_, .mk ?_ (fun x hx => ?_) (Nat.le_refl _)⟩
  · cases e; exact F7
  · have R := rowD_one (D := DK W0 b1) (W := W5) (.mk k t a nav ncap nblk noff ks) ⟨by omega, by omega⟩
    exact R.turns T7 (fun b hb _ => hb.2)
  · obtain rfl : x = _ := by simpa using hx
    exact (h.li.turns t5 (fun b hb _ => by have := hb.1; omega)).turns (TA.trans T7) (fun b hb _ => hb.2)
/-- The same, the row made ahead. -/
theorem FrN.one2 {W0 W W5 : World} {P : Nat} {av : Option Addr} {cap blk off : Nat} {ts : List Tok} {s s5 : St} {r b1 : Nat} {k : Int} {t : List UInt8} {a : Int} {nav : Option Addr} {ncap nblk noff : Nat} {ks : List Nv}
    (h : FrN W0 P av cap blk off ts s r b1 (.mk k t a nav ncap nblk noff ks) W) (p5 : ParAt W5 P av cap blk off ts s5 r) (t5 : Turns (fun b => b = P) (W.alloc (.cells #[.int .i64 k, .string (bs t), .int .i64 a, .slice nav ks.length ncap] 24)) W5) (K : Int) (T : List UInt8) :
    FrN W0 P av cap blk off ts s5 r b1 (.mk K T a (some ⟨W.heap.size, 0, none⟩) 1 W.heap.size 0 [.mk k t a nav ncap nblk noff ks])
      ((((W5.setCell ⟨b1, 0, none⟩ (.int .i64 K)).setCell ⟨b1, 1, none⟩ (.string (bs T))).setCell ⟨b1, 2, none⟩ (.int .i64 a)).setCell ⟨b1, 3, none⟩ (.slice (some ⟨W.heap.size, 0, none⟩) 1 1)) := by
  have F := h.fr _ _ _ _ _ _ _ _ rfl
  have hlt := lt_of F.nod
  have hb := F.lt
  have hn := F.ne
  have F5 := (F.below (bel_new W (.cells #[.int .i64 k, .string (bs t), .int .i64 a, .slice nav ks.length ncap] 24))).step p5 t5
  have F7 := F5.set4 (.int .i64 K) (.string (bs T)) (.int .i64 a) (.slice (some ⟨W.heap.size, 0, none⟩) 1 1)
  have T7 := turns_set4 b1 W5 (.int .i64 K) (.string (bs T)) (.int .i64 a) (.slice (some ⟨W.heap.size, 0, none⟩) 1 1)
  have TA := Turns.alloc (fun c => c = P) W (.cells #[.int .i64 k, .string (bs t), .int .i64 a, .slice nav ks.length ncap] 24)
  refine ⟨fun k' t' a' nav' ncap' nblk' noff' ks' e => ?_, .mk ?_ (fun x hx => ?_) (Nat.le_refl _)⟩
  · cases e; exact F7
  · have R := rowD_one (D := DK W0 b1) (W := W) (.mk k t a nav ncap nblk noff ks) ⟨by omega, by omega⟩
    exact (R.turns t5 (fun b hb _ => by have := hb.1; omega)).turns T7 (fun b hb _ => hb.2)
  · obtain rfl : x = _ := by simpa using hx
    exact (h.li.turns (TA.trans t5) (fun b hb _ => by have := hb.1; omega)).turns T7 (fun b hb _ => hb.2)
theorem left_le {ts : List Tok} {a b : St} (h : Good ts a b) : left ts b ≤ left ts a := by unfold left; have := h.le; omega
theorem left_adv {ts : List Tok} {a : St} (h : a.pl < ts.length) : left ts (adv a) + 1 = left ts a := by unfold left adv; simp; omega

set_option maxRecDepth 100000 in
set_option maxHeartbeats 8000000 in
theorem part_is {W : World} {P : Nat} {av : Option Addr} {cap blk off : Nat} {ts : List Tok} {s : St} {r : Nat} {v : Lv} (hv : Deep P av cap blk off ts r v) (hg : GoodV ts v) (h : ParAt W P av cap blk off ts s r) :
    Calls Try.prog 91 #[.pointer (some ⟨P, 0, none⟩)] W (PaAns P av cap blk off ts r (partF ts v) s W) := by
  have B0 := Bx0.start h
  have H1 := hidW (prim_is hv hg B0.par)
  have HB0 := hidW B0
  have HV := hidW hv
  have HG := hidW hg
  clear h B0 hv hg
  generalize hMM : loopP ts v (left ts (primF ts v s).2) (primF ts v s).1 (primF ts v s).2 = MM
  have HMM := hidW hMM
  clear hMM
  go_enter Try.func91, Try.ntmps91
  go_wp2_with fail
  refine H1.out.mono ?_; clear H1; rintro e W1 ⟨⟨nk, nt, na, nav, ncap, nblk, noff, nks⟩, rfl, hl, hn, p1, t1⟩
  have B1 := HB0.out.step p1 t1
  have F1 := B1.fr (.int .i64 nk) (.string (bs nt)) (.int .i64 na) (.slice nav nks.length ncap)
  have hML : Hid (∃ (n : Nv) (s1 : St) (m : Nat), FrN W P av cap blk off ts s1 r W1.heap.size n (W1.alloc (.cells #[.int .i64 nk, .string (bs nt), .int .i64 na, .slice nav nks.length ncap] 24)) ∧ loopP ts v m n.nd s1 = MM ∧ left ts s1 ≤ m) := by
    refine ⟨.mk nk nt na nav ncap nblk noff nks, (primF ts v s).2, _, ⟨fun k' t' a' nav' ncap' nblk' noff' ks' e => ?_, ?_⟩, ?_, Nat.le_refl _⟩
    · cases e; exact F1
    · refine LiesD.turns (LiesD.mono hl (fun b hb hb2 => ?_)) (Turns.alloc (fun _ => False) _ _) (fun _ _ _ h => h)
      have h1 : (W.alloc (.cells #[.int .i64 0, .string ⟨#[]⟩, .int .i64 0, .slice none 0 0] 24)).heap.size ≤ b := hb
      rw [World.size_alloc] at h1
      exact ⟨by omega, by omega⟩
    · rw [hn]; exact HMM.out
  clear hl hn p1 t1 B1 F1 HB0
  go_wp2_with fail
  go_loopw [] (fun wr => ∃ (n : Nv) (s1 : St) (m : Nat), FrN W P av cap blk off ts s1 r W1.heap.size n wr ∧ loopP ts v m n.nd s1 = MM ∧ left ts s1 ≤ m) (fun wr => leftOf P ts.length wr)
  case atStart => exact hML.out
  case round =>
    clear hML
    obtain ⟨⟨k, t, a, nav, ncap, nblk, noff, ks⟩, s1, m, FN, hmm, hfu⟩ := hrel
    have F := FN.fr _ _ _ _ _ _ _ _ rfl
    have hlo := leftOf_is F.par
    have hbl := F.lt
    have hbn := F.ne
    have hpl := F.par.pl
    cases q1 : isW ts [91] s1 with
    | true =>
      obtain ⟨_, hp1⟩ := isW_at q1
      have hla := left_adv (ts := ts) (a := s1) (by omega)
      obtain ⟨m', rfl⟩ : ∃ m', m = m' + 1 := ⟨m - 1, by omega⟩
      have hmm2 : loopP ts v m' (.mk 23 [] a [(Nv.mk k t a nav ncap nblk noff ks).nd, (v.e (adv s1)).1]) (wantS ts [93] (v.e (adv s1)).2) = MM := by
        rw [loopP, if_pos q1, show (Nv.mk k t a nav ncap nblk noff ks).nd.a = a by rw [nd_mk]; rfl] at hmm
        exact hmm
      have hfu2 : left ts (wantS ts [93] (v.e (adv s1)).2) ≤ m' ∧ left ts (wantS ts [93] (v.e (adv s1)).2) < left ts s1 := by
        have := left_le (HG.out.e (adv s1))
        have := left_le (good_want ts [93] (v.e (adv s1)).2)
        omega
      have hT := hidW (take_yes F.par q1)
      have HH := hidW (And.intro FN (And.intro hmm2 (And.intro hfu2 hlo)))
      clear FN F hmm hfu hmm2 hfu2 hpl hp1 q1 hla hlo
      go_wp2_with fail
      refine hT.out.mono ?_; clear hT; rintro e W3 ⟨rfl, p3, t3⟩
      have FN3 := HH.out.1.step p3 t3
      have FNd := FN3.step (p3.below (bel_d W3)) (turns_b (bel_d W3))
      have Fd := FNd.fr _ _ _ _ _ _ _ _ rfl
      have hD := hidW (HV.out.e (adv s1) _ Fd.par)
      have n0 := cell_of Fd.nod 0
      have n1 := cell_of Fd.nod 1
      have n2 := cell_of Fd.nod 2
      have n3 := cell_of Fd.nod 3
      have m0 := frozen_of Fd.nod 0
      have m1 := frozen_of Fd.nod 1
      have m2 := frozen_of Fd.nod 2
      have m3 := frozen_of Fd.nod 3
      simp only [List.getElem?_toArray, List.getElem?_cons_zero, List.getElem?_cons_succ] at n0 n1 n2 n3
      have HFd := hidW FNd
      clear FN3 FNd Fd p3 t3
      go_wp2_with fail
      refine region_late (fun V => V.cell? ⟨W1.heap.size, 0, none⟩ = some (.int .i64 k) ∧ V.cell? ⟨W1.heap.size, 1, none⟩ = some (.string (bs t)) ∧ V.cell? ⟨W1.heap.size, 2, none⟩ = some (.int .i64 a) ∧ V.cell? ⟨W1.heap.size, 3, none⟩ = some (.slice nav ks.length ncap)) 9 (by kernel_rfl) ?_
      have hHeld : W3.drew.cell? ⟨W1.heap.size, 0, none⟩ = some (.int .i64 k) ∧ W3.drew.cell? ⟨W1.heap.size, 1, none⟩ = some (.string (bs t)) ∧ W3.drew.cell? ⟨W1.heap.size, 2, none⟩ = some (.int .i64 a) ∧ W3.drew.cell? ⟨W1.heap.size, 3, none⟩ = some (.slice nav ks.length ncap) := ⟨n0, n1, n2, n3⟩
      refine anyL_take (i := 0) (v := ?_) rfl (by kernel_rfl) (by kernel_rfl) (by kernel_rfl) (by kernel_rfl) (fun _ _ _ h => h) (Or.inl ⟨by rfl, ?_⟩) hHeld ?_
      rotate_left 1
      · intro w hSw; (try dsimp only at hSw); go_simp; try with_reducible rfl
      refine anyL_take (i := 1) (v := ?_) rfl (by kernel_rfl) (by kernel_rfl) (by kernel_rfl) (by kernel_rfl) (fun _ _ _ h => h) (Or.inl ⟨by rfl, ?_⟩) hHeld ?_
      rotate_left 1
      · intro w hSw; (try dsimp only at hSw); go_simp; try with_reducible rfl
      refine anyL_take (i := 2) (v := ?_) rfl (by kernel_rfl) (by kernel_rfl) (by kernel_rfl) (by kernel_rfl) (fun _ _ _ h => h) (Or.inl ⟨by rfl, ?_⟩) hHeld ?_
      rotate_left 1
      · intro w hSw; (try dsimp only at hSw); go_simp; try with_reducible rfl
      refine anyL_take (i := 3) (v := ?_) rfl (by kernel_rfl) (by kernel_rfl) (by kernel_rfl) (by kernel_rfl) (fun _ _ _ h => h) (Or.inl ⟨by rfl, ?_⟩) hHeld ?_
      rotate_left 1
      · intro w hSw; (try dsimp only at hSw); go_simp; try with_reducible rfl
      refine anyL_take (i := 4) (v := ?_) rfl (by kernel_rfl) (by kernel_rfl) (by kernel_rfl) (by kernel_rfl) (fun _ _ _ h => h) (Or.inl ⟨by rfl, ?_⟩) hHeld ?_
      rotate_left 1
      · intro w hSw; (try dsimp only at hSw); go_simp; try with_reducible rfl
      refine anyL_take (i := 5) (v := ?_) rfl (by kernel_rfl) (by kernel_rfl) (by kernel_rfl) (by kernel_rfl) (fun _ _ _ h => h) (Or.inl ⟨by rfl, ?_⟩) hHeld ?_
      rotate_left 1
      · intro w hSw; (try dsimp only at hSw); go_simp; try with_reducible rfl
      refine anyL_ready (rs := [6]) (by kernel_rfl) (by simp) (ReadyL.cons rfl (fun K hK => ?_) (ReadyL.nil))
      · go_simp
        refine hD.out.mono ?_
        rintro e W5 ⟨⟨mk, mt, ma, mav, mcap, mblk, moff, mks⟩, rfl, hl5, hn5, p5, t5⟩
        have FN7 := FrN.bin HFd.out p5 t5 hl5 23 []
        have F5 := (HFd.out.fr _ _ _ _ _ _ _ _ rfl).step p5 t5
        have F6 := F5.below (bel_new W5 (.cells #[.int .i64 k, .string (bs t), .int .i64 a, .slice nav ks.length ncap, .int .i64 mk, .string (bs mt), .int .i64 ma, .slice mav mks.length mcap] 24))
        have c0 := cell_of F5.nod 0
        have c1 := cell_of F5.nod 1
        have c2 := cell_of F5.nod 2
        have c3 := cell_of F5.nod 3
        have u0 := cell_of F6.nod 0
        have u1 := cell_of F6.nod 1
        have u2 := cell_of F6.nod 2
        have u3 := cell_of F6.nod 3
        have l0 := frozen_of F6.nod 0
        have l1 := frozen_of F6.nod 1
        have l2 := frozen_of F6.nod 2
        have l3 := frozen_of F6.nod 3
        simp only [List.getElem?_toArray, List.getElem?_cons_zero, List.getElem?_cons_succ] at c0 c1 c2 c3 u0 u1 u2 u3
        have HFN7 := hidW FN7
        have HN5 := hidW hn5
        clear FN7 F5 F6 hl5 hn5 p5 t5
        go_wp2_with fail
        refine hK.out _ _ (⟨c0, c1, c2, c3⟩) (fun hHeld => ?_)
        clear hK K
        refine anyL_ready (rs := [7]) (by kernel_rfl) (by simp) (ReadyL.cons rfl (fun K hK => ?_) (ReadyL.nil))
        · go_simp
          refine hK.out _ _ (⟨u0, u1, u2, u3⟩) (fun hHeld => ?_)
          clear hK K
          refine anyL_take (i := 8) (v := ?_) rfl (by kernel_rfl) (by kernel_rfl) (by kernel_rfl) (by kernel_rfl) (fun _ _ _ h => h) (Or.inl ⟨by rfl, ?_⟩) hHeld ?_
          rotate_left 1
          · intro w hSw; (try dsimp only at hSw); go_simp; try with_reducible rfl
          refine anyL_ready (rs := [9]) (by kernel_rfl) (by simp) (ReadyL.late rfl (by kernel_rfl) (fun K hK => ?_) (ReadyL.nil))
          · go_simp
            refine hK.out _ _ ?_
            clear hK K
            refine anyL_done (by kernel_rfl) ?_ _
            have FN7 := HFN7.out
            have HW := hidW (want_is (FN7.fr _ _ _ _ _ _ _ _ rfl).par [93])
            clear FN7
            go_wp2_with fail
            refine HW.out.mono ?_; clear HW; rintro e W8 ⟨rfl, p8, t8⟩
            have FN8 := hidW (HFN7.out.step p8 t8)
            have hlo8 := hidW (leftOf_is p8)
            clear p8 t8
            go_wp2_with fail
            go_roundw
            case rel => exact ⟨_, _, m', FN8.out, by rw [nd_mk]; simp only [List.map_cons, List.map_nil]; rw [HN5.out]; exact HH.out.2.1, HH.out.2.2.1.1⟩
            case measure => rw [hlo8.out, HH.out.2.2.2]; exact HH.out.2.2.1.2
    | false =>
      cases q2 : isW ts [46] s1 with
      | true =>
        obtain ⟨_, hp1⟩ := isW_at q2
        have hla := left_adv (ts := ts) (a := s1) (by omega)
        obtain ⟨m', rfl⟩ : ∃ m', m = m' + 1 := ⟨m - 1, by omega⟩
        have hmm2 : loopP ts v m' (.mk 24 (numS ts (adv s1)).1 a [(Nv.mk k t a nav ncap nblk noff ks).nd]) (numS ts (adv s1)).2 = MM := by
          rw [loopP, if_neg (by simp [q1]), if_pos q2, show (Nv.mk k t a nav ncap nblk noff ks).nd.a = a by rw [nd_mk]; rfl] at hmm
          exact hmm
        have hfu2 : left ts (numS ts (adv s1)).2 ≤ m' ∧ left ts (numS ts (adv s1)).2 < left ts s1 := by
          have := left_le (good_num ts (adv s1))
          omega
        have hT := hidW (take_no F.par q1)
        have HH := hidW (And.intro FN (And.intro hmm2 (And.intro hfu2 hlo)))
        have Q2 := hidW q2
        clear FN F hmm hfu hmm2 hfu2 hpl hp1 q1 q2 hla hlo
        go_wp2_with fail
        refine hT.out.mono ?_; clear hT; rintro e W2 ⟨rfl, p2, t2⟩
        have FN2 := HH.out.1.step p2 t2
        have hT := hidW (take_yes p2 Q2.out)
        have HFN2 := hidW FN2
        clear FN2 p2 t2
        go_wp2_with fail
        refine hT.out.mono ?_; clear hT; rintro e W3 ⟨rfl, p3, t3⟩
        have FN3 := HFN2.out.step p3 t3
        have FNd := FN3.step (p3.below (bel_d W3)) (turns_b (bel_d W3))
        have Fd := FNd.fr _ _ _ _ _ _ _ _ rfl
        have hD := hidW (number_is Fd.par)
        have FA := Fd.below (bel_new W3.drew (.cells #[.int .i64 k, .string (bs t), .int .i64 a, .slice nav ks.length ncap] 24))
        have hD2 := hidW (number_is FA.par)
        have n0 := cell_of Fd.nod 0
        have n1 := cell_of Fd.nod 1
        have n2 := cell_of Fd.nod 2
        have n3 := cell_of Fd.nod 3
        have m0 := frozen_of Fd.nod 0
        have m1 := frozen_of Fd.nod 1
        have m2 := frozen_of Fd.nod 2
        have m3 := frozen_of Fd.nod 3
        have o0 := cell_of FA.nod 0
        have o1 := cell_of FA.nod 1
        have o2 := cell_of FA.nod 2
        have o3 := cell_of FA.nod 3
        simp only [List.getElem?_toArray, List.getElem?_cons_zero, List.getElem?_cons_succ] at n0 n1 n2 n3 o0 o1 o2 o3
        have HFd := hidW FNd
        clear FN3 FNd Fd FA p3 t3 HFN2
        go_wp2_with fail
        generalize hTX : (numS ts (adv s1)).1 = TX at *
        refine region_late (fun V => V.cell? ⟨W1.heap.size, 0, none⟩ = some (.int .i64 k) ∧ V.cell? ⟨W1.heap.size, 1, none⟩ = some (.string (bs t)) ∧ V.cell? ⟨W1.heap.size, 2, none⟩ = some (.int .i64 a) ∧ V.cell? ⟨W1.heap.size, 3, none⟩ = some (.slice nav ks.length ncap)) 7 (by kernel_rfl) ?_
        have hHeld : W3.drew.cell? ⟨W1.heap.size, 0, none⟩ = some (.int .i64 k) ∧ W3.drew.cell? ⟨W1.heap.size, 1, none⟩ = some (.string (bs t)) ∧ W3.drew.cell? ⟨W1.heap.size, 2, none⟩ = some (.int .i64 a) ∧ W3.drew.cell? ⟨W1.heap.size, 3, none⟩ = some (.slice nav ks.length ncap) := ⟨n0, n1, n2, n3⟩
        refine anyL_take (i := 0) (v := ?_) rfl (by kernel_rfl) (by kernel_rfl) (by kernel_rfl) (by kernel_rfl) (fun _ _ _ h => h) (Or.inl ⟨by rfl, ?_⟩) hHeld ?_
        rotate_left 1
        · intro w hSw; (try dsimp only at hSw); go_simp; try with_reducible rfl
        refine anyL_take (i := 2) (v := ?_) rfl (by kernel_rfl) (by kernel_rfl) (by kernel_rfl) (by kernel_rfl) (fun _ _ _ h => h) (Or.inl ⟨by rfl, ?_⟩) hHeld ?_
        rotate_left 1
        · intro w hSw; (try dsimp only at hSw); go_simp; try with_reducible rfl
        refine anyL_take (i := 3) (v := ?_) rfl (by kernel_rfl) (by kernel_rfl) (by kernel_rfl) (by kernel_rfl) (fun _ _ _ h => h) (Or.inl ⟨by rfl, ?_⟩) hHeld ?_
        rotate_left 1
        · intro w hSw; (try dsimp only at hSw); go_simp; try with_reducible rfl
        refine anyL_take (i := 4) (v := ?_) rfl (by kernel_rfl) (by kernel_rfl) (by kernel_rfl) (by kernel_rfl) (fun _ _ _ h => h) (Or.inl ⟨by rfl, ?_⟩) hHeld ?_
        rotate_left 1
        · intro w hSw; (try dsimp only at hSw); go_simp; try with_reducible rfl
        refine anyL_ready (rs := [1, 5]) (by kernel_rfl) (by simp) (ReadyL.cons rfl (fun K hK => ?_) (ReadyL.cons rfl (fun K hK => ?_) (ReadyL.nil)))
        · go_simp
          refine hD.out.mono ?_
          rintro e W5 ⟨rfl, p5, t5⟩
          have FN7 := FrN.one HFd.out p5 t5 24 TX
          have F5 := (HFd.out.fr _ _ _ _ _ _ _ _ rfl).step p5 t5
          have F6 := F5.below (bel_new W5 (.cells #[.int .i64 k, .string (bs t), .int .i64 a, .slice nav ks.length ncap] 24))
          have c0 := cell_of F5.nod 0
          have c1 := cell_of F5.nod 1
          have c2 := cell_of F5.nod 2
          have c3 := cell_of F5.nod 3
          have u0 := cell_of F6.nod 0
          have u1 := cell_of F6.nod 1
          have u2 := cell_of F6.nod 2
          have u3 := cell_of F6.nod 3
          have l0 := frozen_of F6.nod 0
          have l1 := frozen_of F6.nod 1
          have l2 := frozen_of F6.nod 2
          have l3 := frozen_of F6.nod 3
          simp only [List.getElem?_toArray, List.getElem?_cons_zero, List.getElem?_cons_succ] at c0 c1 c2 c3 u0 u1 u2 u3
          have HFN7 := hidW FN7
          clear FN7 F5 F6 p5 t5
          go_wp2_with fail
          refine hK.out _ _ (⟨c0, c1, c2, c3⟩) (fun hHeld => ?_)
          clear hK K
          refine anyL_ready (rs := [5]) (by kernel_rfl) (by simp) (ReadyL.cons rfl (fun K hK => ?_) (ReadyL.nil))
          · go_simp
            refine hK.out _ _ (⟨u0, u1, u2, u3⟩) (fun hHeld => ?_)
            clear hK K
            refine anyL_take (i := 6) (v := ?_) rfl (by kernel_rfl) (by kernel_rfl) (by kernel_rfl) (by kernel_rfl) (fun _ _ _ h => h) (Or.inl ⟨by rfl, ?_⟩) hHeld ?_
            rotate_left 1
            · intro w hSw; (try dsimp only at hSw); go_simp; try with_reducible rfl
            refine anyL_ready (rs := [7]) (by kernel_rfl) (by simp) (ReadyL.late rfl (by kernel_rfl) (fun K hK => ?_) (ReadyL.nil))
            · go_simp
              refine hK.out _ _ ?_
              clear hK K
              refine anyL_done (by kernel_rfl) ?_ _
              have FN7 := HFN7.out
              have hlo7 := hidW (leftOf_is (FN7.fr _ _ _ _ _ _ _ _ rfl).par)
              clear FN7
              go_wp2_with fail
              go_roundw
              case rel => exact ⟨_, _, m', HFN7.out, by rw [nd_mk]; exact HH.out.2.1, HH.out.2.2.1.1⟩
              case measure => exact Nat.lt_of_le_of_lt (Nat.le_of_eq hlo7.out) (by rw [HH.out.2.2.2]; exact HH.out.2.2.1.2)
        · go_simp
          refine hK.out _ _ (⟨o0, o1, o2, o3⟩) (fun hHeld => ?_)
          clear hK K
          refine anyL_ready (rs := [1]) (by kernel_rfl) (by simp) (ReadyL.cons rfl (fun K hK => ?_) (ReadyL.nil))
          · go_simp
            refine hD2.out.mono ?_
            rintro e W5 ⟨rfl, p5, t5⟩
            have FN7 := FrN.one2 HFd.out p5 t5 24 TX
            have F5 := ((HFd.out.fr _ _ _ _ _ _ _ _ rfl).below (bel_new W3.drew (.cells #[.int .i64 k, .string (bs t), .int .i64 a, .slice nav ks.length ncap] 24))).step p5 t5
            have c0 := cell_of F5.nod 0
            have c1 := cell_of F5.nod 1
            have c2 := cell_of F5.nod 2
            have c3 := cell_of F5.nod 3
            have l0 := frozen_of F5.nod 0
            have l1 := frozen_of F5.nod 1
            have l2 := frozen_of F5.nod 2
            have l3 := frozen_of F5.nod 3
            simp only [List.getElem?_toArray, List.getElem?_cons_zero, List.getElem?_cons_succ] at c0 c1 c2 c3
            have HFN7 := hidW FN7
            clear FN7 F5 p5 t5
            go_wp2_with fail
            refine hK.out _ _ (⟨c0, c1, c2, c3⟩) (fun hHeld => ?_)
            clear hK K
            refine anyL_take (i := 6) (v := ?_) rfl (by kernel_rfl) (by kernel_rfl) (by kernel_rfl) (by kernel_rfl) (fun _ _ _ h => h) (Or.inl ⟨by rfl, ?_⟩) hHeld ?_
            rotate_left 1
            · intro w hSw; (try dsimp only at hSw); go_simp; try with_reducible rfl
            refine anyL_ready (rs := [7]) (by kernel_rfl) (by simp) (ReadyL.late rfl (by kernel_rfl) (fun K hK => ?_) (ReadyL.nil))
            · go_simp
              refine hK.out _ _ ?_
              clear hK K
              refine anyL_done (by kernel_rfl) ?_ _
              have FN7 := HFN7.out
              have hlo7 := hidW (leftOf_is (FN7.fr _ _ _ _ _ _ _ _ rfl).par)
              clear FN7
              go_wp2_with fail
              go_roundw
              case rel => exact ⟨_, _, m', HFN7.out, by rw [nd_mk]; exact HH.out.2.1, HH.out.2.2.1.1⟩
              case measure => exact Nat.lt_of_le_of_lt (Nat.le_of_eq hlo7.out) (by rw [HH.out.2.2.2]; exact HH.out.2.2.1.2)
      | false =>
        have hMM : MM = ((Nv.mk k t a nav ncap nblk noff ks).nd, s1) := by
          rw [← hmm]
          cases m with
          | zero => rfl
          | succ m => rw [loopP, if_neg (by simp [q1]), if_neg (by simp [q2])]
        have hw : partF ts v s = ((Nv.mk k t a nav ncap nblk noff ks).nd, s1) := HMM.out.trans hMM
        have hT := hidW (take_no F.par q1)
        have HFN := hidW FN
        have Q2 := hidW q2
        clear FN F hmm hfu hpl q1 q2 hlo hMM
        go_wp2_with fail
        refine hT.out.mono ?_; clear hT; rintro e W2 ⟨rfl, p2, t2⟩
        have FN2 := HFN.out.step p2 t2
        have hT := hidW (take_no p2 Q2.out)
        have HFN2 := hidW FN2
        clear FN2 p2 t2
        go_wp2_with fail
        refine hT.out.mono ?_; clear hT; rintro e W3 ⟨rfl, p3, t3⟩
        have FN3 := HFN2.out.step p3 t3
        have F3 := FN3.fr _ _ _ _ _ _ _ _ rfl
        have n0 := cell_of F3.nod 0
        have n1 := cell_of F3.nod 1
        have n2 := cell_of F3.nod 2
        have n3 := cell_of F3.nod 3
        have m0 := frozen_of F3.nod 0
        have m1 := frozen_of F3.nod 1
        have m2 := frozen_of F3.nod 2
        have m3 := frozen_of F3.nod 3
        have z0 := cell_of F3.res 0
        have z1 := cell_of F3.res 1
        have z2 := cell_of F3.res 2
        have z3 := cell_of F3.res 3
        have f0 := frozen_of F3.res 0
        have f1 := frozen_of F3.res 1
        have f2 := frozen_of F3.res 2
        have f3 := frozen_of F3.res 3
        simp only [List.getElem?_toArray, List.getElem?_cons_zero, List.getElem?_cons_succ] at n0 n1 n2 n3 z0 z1 z2 z3
        obtain ⟨r0, r1, r2, r3⟩ := res4 F3.res (.int .i64 k) (.string (bs t)) (.int .i64 a) (.slice nav ks.length ncap)
        have HFin := hidW (F3.finD FN3.li hw)
        clear F3 FN3 p3 t3 HFN2 HFN
        go_wp2
        refine bodyPost_ret (v := .agg #[.int .i64 k, .string (bs t), .int .i64 a, .slice nav ks.length ncap]) (by simp [results, Try.results91, go_sem, r0, r1, r2, r3]) rfl ?_
        exact HFin.out
end Go.Proofs.Ytgndnodahlabiaa
