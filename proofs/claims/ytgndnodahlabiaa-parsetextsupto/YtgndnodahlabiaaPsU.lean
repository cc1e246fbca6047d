/-
  Statements that ";" ends (layer 10): the contracts of the parser's setOrDo and line.
-/
import Derived.Test.YtgndnodahlabiaaPsT
namespace Go.Proofs.Ytgndnodahlabiaa
open Go.ChangeShapes Go.WideShapes Go.ChangeAt Go.RowKit

/-- A node in somebody else's box. -/
structure Nx (W0 : World) (P : Nat) (av : Option Addr) (cap blk off : Nat) (ts : List Tok) (s : St) (r b1 : Nat) (x0 x1 x2 x3 : Value) (W : World) : Prop where
  par : ParAt W P av cap blk off ts s r
  nod : W.heap[b1]? = some (.cells #[x0, x1, x2, x3] 24 (0, 0))
  tur : Turns (fun b => b = P ∨ b = b1) W0 W
  ne : b1 ≠ P
  bk : 0 < ts.length → blk ≠ b1
  lt : b1 < W0.heap.size
theorem Nx.step {W0 W W' : World} {P : Nat} {av : Option Addr} {cap blk off : Nat} {ts : List Tok} {s s' : St} {r b1 : Nat} {x0 x1 x2 x3 : Value} (h : Nx W0 P av cap blk off ts s r b1 x0 x1 x2 x3 W) (p : ParAt W' P av cap blk off ts s' r) (t : Turns (fun b => b = P) W W') : Nx W0 P av cap blk off ts s' r b1 x0 x1 x2 x3 W' :=
  ⟨p, (t.block _ (lt_of h.nod) h.ne).trans h.nod, h.tur.trans (t.mono (fun _ e => .inl e)), h.ne, h.bk, h.lt⟩
theorem Nx.below {W0 W W' : World} {P : Nat} {av : Option Addr} {cap blk off : Nat} {ts : List Tok} {s : St} {r b1 : Nat} {x0 x1 x2 x3 : Value} (h : Nx W0 P av cap blk off ts s r b1 x0 x1 x2 x3 W) (t : Below W.heap.size W W') : Nx W0 P av cap blk off ts s r b1 x0 x1 x2 x3 W' :=
  h.step (h.par.below t) (turns_b t)
theorem Nx.par_set {W0 W : World} {P : Nat} {av : Option Addr} {cap blk off : Nat} {ts : List Tok} {s : St} {r b1 : Nat} {x0 x1 x2 x3 : Value} (h : Nx W0 P av cap blk off ts s r b1 x0 x1 x2 x3 W) (o : Nat) (v : Value) : ParAt (W.setCell ⟨b1, o, none⟩ v) P av cap blk off ts s r ∧ Turns (fun b => b = P ∨ b = b1) W0 (W.setCell ⟨b1, o, none⟩ v) :=
  ⟨h.par.turns2 (turns_p b1 o v W) (Ne.symm h.ne) (fun h0 e => h.bk h0 e), h.tur.trans ((turns_p b1 o v W).mono (fun _ e => .inr e))⟩
theorem Nx.set0 {W0 W : World} {P : Nat} {av : Option Addr} {cap blk off : Nat} {ts : List Tok} {s : St} {r b1 : Nat} {x0 x1 x2 x3 : Value} (h : Nx W0 P av cap blk off ts s r b1 x0 x1 x2 x3 W) (v : Value) : Nx W0 P av cap blk off ts s r b1 v x1 x2 x3 (W.setCell ⟨b1, 0, none⟩ v) :=
  ⟨(h.par_set 0 v).1, heap_set_same' h.nod 0 v, (h.par_set 0 v).2, h.ne, h.bk, h.lt⟩
theorem Nx.set1 {W0 W : World} {P : Nat} {av : Option Addr} {cap blk off : Nat} {ts : List Tok} {s : St} {r b1 : Nat} {x0 x1 x2 x3 : Value} (h : Nx W0 P av cap blk off ts s r b1 x0 x1 x2 x3 W) (v : Value) : Nx W0 P av cap blk off ts s r b1 x0 v x2 x3 (W.setCell ⟨b1, 1, none⟩ v) :=
  ⟨(h.par_set 1 v).1, heap_set_same' h.nod 1 v, (h.par_set 1 v).2, h.ne, h.bk, h.lt⟩
theorem Nx.set3 {W0 W : World} {P : Nat} {av : Option Addr} {cap blk off : Nat} {ts : List Tok} {s : St} {r b1 : Nat} {x0 x1 x2 x3 : Value} (h : Nx W0 P av cap blk off ts s r b1 x0 x1 x2 x3 W) (v : Value) : Nx W0 P av cap blk off ts s r b1 x0 x1 x2 v (W.setCell ⟨b1, 3, none⟩ v) :=
  ⟨(h.par_set 3 v).1, heap_set_same' h.nod 3 v, (h.par_set 3 v).2, h.ne, h.bk, h.lt⟩
/-- What a method that makes of a node another one does. -/
def LnAns (P : Nat) (av : Option Addr) (cap blk off : Nat) (ts : List Tok) (r b1 : Nat) (w : Pa) (s : St) (W : World) (e : Ending) (W' : World) : Prop :=
  e = .returned (.tuple #[]) ∧ ∃ (k : Int) (t : List UInt8) (a : Int) (nav : Option Addr) (ncap nblk noff : Nat) (ks : List Nv), Nx W P av cap blk off ts (w s).2 r b1 (.int .i64 k) (.string (bs t)) (.int .i64 a) (.slice nav ks.length ncap) W' ∧ LiesD (fun b => W.heap.size ≤ b) W' (.mk k t a nav ncap nblk noff ks) ∧ (Nv.mk k t a nav ncap nblk noff ks).nd = (w s).1
theorem LnFin {W0 V : World} {P : Nat} {av : Option Addr} {cap blk off : Nat} {ts : List Tok} {s s' : St} {r b1 : Nat} {w : Pa} {K : Int} {T : List UInt8} {a : Int} {x3 : Value} (N : Nx W0 P av cap blk off ts s' r b1 (.int .i64 K) (.string (bs T)) (.int .i64 a) x3 V) {kav : Option Addr} {kcap kblk koff : Nat} {ks : List Nv} (R : RowD (fun b => W0.heap.size ≤ b) V kav kblk koff ks) (L : ∀ n, n ∈ ks → LiesD (fun b => W0.heap.size ≤ b) V n) (hw : w s = (.mk K T a (ks.map Nv.nd), s')) (hc : ks.length ≤ kcap := by simp) :
    LnAns P av cap blk off ts r b1 w s W0 (.returned (.tuple #[])) (V.setCell ⟨b1, 3, none⟩ (.slice kav ks.length kcap)) := by
  have hlt := N.lt
  refine ⟨rfl, K, T, a, kav, kcap, kblk, koff, ks, by rw [hw]; exact N.set3 _, ?_, by rw [nd_mk, hw]⟩
  exact .mk (R.turns (turns_p b1 3 _ V) (fun b hb _ => by omega)) (fun n hn => (L n hn).turns (turns_p b1 3 _ V) (fun b hb _ => by omega)) hc
theorem lies_all_one {D : Nat → Prop} {W : World} {n : Nv} (h : LiesD D W n) : ∀ m, m ∈ [n] → LiesD D W m := fun m hm => by
  obtain rfl : m = n := by simpa using hm
  exact h
theorem lies_all_two {D : Nat → Prop} {W : World} {n m : Nv} (h : LiesD D W n) (k : LiesD D W m) : ∀ x, x ∈ [n, m] → LiesD D W x := fun x hx => by
  rcases (show x = n ∨ x = m by simpa using hx) with rfl | rfl
  · exact h
  · exact k
theorem lies_new {D : Nat → Prop} {W : World} {n : Nv} (h : LiesD D W n) (o : Obj) : LiesD D (W.alloc o) n := h.turns (Turns.alloc (fun _ => False) W o) (fun _ _ _ h => h)
theorem lies_box {W0 W : World} {n : Nv} {b o : Nat} {v : Value} (h : LiesD (fun b => W0.heap.size ≤ b) W n) (hb : b < W0.heap.size) : LiesD (fun b => W0.heap.size ≤ b) (W.setCell ⟨b, o, none⟩ v) n := h.turns (turns_p b o v W) (fun c hc _ => by omega)
theorem row_box {W0 W : World} {av : Option Addr} {blk off : Nat} {ks : List Nv} {b o : Nat} {v : Value} (h : RowD (fun b => W0.heap.size ≤ b) W av blk off ks) (hb : b < W0.heap.size) : RowD (fun b => W0.heap.size ≤ b) (W.setCell ⟨b, o, none⟩ v) av blk off ks := h.turns (turns_p b o v W) (fun c hc _ => by omega)
theorem size_set (W : World) (a : Addr) (v : Value) : (W.setCell a v).heap.size = W.heap.size := by simp [World.setCell]

set_option maxRecDepth 100000 in
set_option maxHeartbeats 8000000 in
theorem setOrDo_is {W : World} {P : Nat} {av : Option Addr} {cap blk off : Nat} {ts : List Tok} {s : St} {r b1 : Nat} {v : Lv} (hv : Deep P av cap blk off ts r v) (N0 : Nx W P av cap blk off ts s r b1 (.int .i64 0) (.string ⟨#[]⟩) (.int .i64 (nextT ts s).a) (.slice none 0 0) W)
    (hF : lineF ts v s = if (v.e s).1.k = 25 ∧ isW ts [61] (v.e s).2 = false then (.mk 16 [] (nextT ts s).a [(v.e s).1], (v.e s).2) else (.mk 11 [] (nextT ts s).a [(v.e s).1, (v.e (wantS ts [61] (v.e s).2)).1], (v.e (wantS ts [61] (v.e s).2)).2)) :
    Calls Try.prog 86 #[.pointer (some ⟨P, 0, none⟩), .pointer (some ⟨b1, 0, none⟩)] W (LnAns P av cap blk off ts r b1 (lineF ts v) s W) := by
  have hE := hidW (hv.e s W N0.par)
  have HN0 := hidW N0
  have HV := hidW hv
  have hbl := N0.lt
  clear hv N0
  go_enter Try.func86, Try.ntmps86
  go_wp2_with fail
  refine hE.out.mono ?_; clear hE; rintro e W1 ⟨⟨nk, nt, na, nav, ncap, nblk, noff, nks⟩, rfl, hl, hn, p1, t1⟩
  have N1 := HN0.out.step p1 t1
  have N2 := N1.below (bel_new W1 (.cells #[.int .i64 nk, .string (bs nt), .int .i64 na, .slice nav nks.length ncap] 24))
  have hk2 : (W1.alloc (.cells #[.int .i64 nk, .string (bs nt), .int .i64 na, .slice nav nks.length ncap] 24)).heap[W1.heap.size]? = some (.cells #[.int .i64 nk, .string (bs nt), .int .i64 na, .slice nav nks.length ncap] 24 (0, 0)) := World.alloc_heap_new W1 _
  have hl2 := lies_new hl (.cells #[.int .i64 nk, .string (bs nt), .int .i64 na, .slice nav nks.length ncap] 24)
  have hb2 : W.heap.size ≤ W1.heap.size := t1.size
  have hPl := lt_of HN0.out.par.box
  have hkd : (v.e s).1.k = nk := by rw [← hn, nd_mk]; rfl
  rw [hkd, ← hn] at hF
  have HF := hidW hF
  have c0 := cell_of hk2 0
  simp only [List.getElem?_toArray, List.getElem?_cons_zero] at c0
  have HH := hidW (And.intro N2 (And.intro hk2 hl2))
  have hIS := hidW (is_is N2.par [61])
  clear N1 N2 hk2 hl2 hl hn p1 t1 hkd hF HN0
  by_cases hk : nk = 25
  · have e1 : (nk == 25) = true := by simp [hk]
    cases q1 : isW ts [61] (v.e s).2 with
    | false =>
      rw [q1] at hIS
      have hw : lineF ts v s = (.mk 16 [] (nextT ts s).a ([Nv.mk nk nt na nav ncap nblk noff nks].map Nv.nd), (v.e s).2) := by rw [HF.out, if_pos ⟨hk, q1⟩]; rfl
      clear hk HF q1
      go_wp2_with fail
      refine hIS.out.mono ?_; clear hIS; rintro e W3 ⟨rfl, hb3⟩
      have N3 := (HH.out.1.below hb3).below (bel_d W3)
      have hk3 : W3.drew.heap[W1.heap.size]? = some (.cells #[.int .i64 nk, .string (bs nt), .int .i64 na, .slice nav nks.length ncap] 24 (0, 0)) := (hb3.block _ (by simp)).trans HH.out.2.1
      have hl3 : LiesD (fun b => W.heap.size ≤ b) W3.drew (.mk nk nt na nav ncap nblk noff nks) := (HH.out.2.2.turns (turns_b (Q := fun _ => False) hb3) (fun _ _ _ h => h)).turns (turns_b (Q := fun _ => False) (bel_d W3)) (fun _ _ _ h => h)
      have hs3 : W1.heap.size < W3.drew.heap.size := lt_of hk3
      have z0 := cell_of hk3 0
      have z1 := cell_of hk3 1
      have z2 := cell_of hk3 2
      have z3 := cell_of hk3 3
      have n0 := cell_of N3.nod 0
      have m0 := frozen_of N3.nod 0
      have n3 := cell_of N3.nod 3
      have m3 := frozen_of N3.nod 3
      have NA := N3.below (bel_new W3.drew (.cells #[.int .i64 nk, .string (bs nt), .int .i64 na, .slice nav nks.length ncap] 24))
      have hkA : (W3.drew.alloc (.cells #[.int .i64 nk, .string (bs nt), .int .i64 na, .slice nav nks.length ncap] 24)).heap[W1.heap.size]? = some (.cells #[.int .i64 nk, .string (bs nt), .int .i64 na, .slice nav nks.length ncap] 24 (0, 0)) := (bel_new W3.drew (.cells #[.int .i64 nk, .string (bs nt), .int .i64 na, .slice nav nks.length ncap] 24)).block _ hs3 |>.trans hk3
      have NK := N3.set0 (.int .i64 16)
      have hkK : (W3.drew.setCell ⟨b1, 0, none⟩ (.int .i64 16)).heap[W1.heap.size]? = some (.cells #[.int .i64 nk, .string (bs nt), .int .i64 na, .slice nav nks.length ncap] 24 (0, 0)) := ((turns_p b1 0 (.int .i64 16) W3.drew).block _ hs3 (by omega)).trans hk3
      have NAK := NA.set0 (.int .i64 16)
      have hkAK := ((turns_p b1 0 (.int .i64 16) (W3.drew.alloc (.cells #[.int .i64 nk, .string (bs nt), .int .i64 na, .slice nav nks.length ncap] 24))).block W1.heap.size (lt_of hkA) (by omega)).trans hkA
      have NKA := NK.below (bel_new _ (.cells #[.int .i64 nk, .string (bs nt), .int .i64 na, .slice nav nks.length ncap] 24))
      have hkKA := ((bel_new (W3.drew.setCell ⟨b1, 0, none⟩ (.int .i64 16)) (.cells #[.int .i64 nk, .string (bs nt), .int .i64 na, .slice nav nks.length ncap] 24)).block _ (lt_of hkK)).trans hkK
      have a0 := cell_of hkA 0
      have a1 := cell_of hkA 1
      have a2 := cell_of hkA 2
      have a3 := cell_of hkA 3
      have y0 := cell_of hkK 0
      have y1 := cell_of hkK 1
      have y2 := cell_of hkK 2
      have y3 := cell_of hkK 3
      have c0 := cell_of hkAK 0
      have c1 := cell_of hkAK 1
      have c2 := cell_of hkAK 2
      have c3 := cell_of hkAK 3
      have d0 := cell_of hkKA 0
      have d1 := cell_of hkKA 1
      have d2 := cell_of hkKA 2
      have d3 := cell_of hkKA 3
      have f0 := cell_of NA.nod 0
      have g0 := frozen_of NA.nod 0
      have f3 := cell_of NAK.nod 3
      have g3 := frozen_of NAK.nod 3
      have h3 := cell_of NKA.nod 3
      have i3 := frozen_of NKA.nod 3
      simp only [List.getElem?_toArray, List.getElem?_cons_zero, List.getElem?_cons_succ] at z0 z1 z2 z3 n0 n3 a0 a1 a2 a3 y0 y1 y2 y3 c0 c1 c2 c3 d0 d1 d2 d3 f0 f3 h3
      have hDD : (fun b => W.heap.size ≤ b) W3.drew.heap.size := by show W.heap.size ≤ _; omega
      have HA := hidW (LnFin (w := lineF ts v) (s := s) (T := []) (kcap := 1) NAK (row_box (rowD_one (D := fun b => W.heap.size ≤ b) (W := W3.drew) (.mk nk nt na nav ncap nblk noff nks) hDD) hbl) (lies_all_one (lies_box (lies_new hl3 _) hbl)) hw)
      have HB0 := LnFin (w := lineF ts v) (s := s) (T := []) (kcap := 1) NKA (rowD_one (D := fun b => W.heap.size ≤ b) (W := W3.drew.setCell ⟨b1, 0, none⟩ (.int .i64 16)) (.mk nk nt na nav ncap nblk noff nks) (by rw [size_set]; exact hDD)) (lies_all_one (lies_new (lies_box hl3 hbl) _)) hw
      rw [size_set] at HB0
      have HB := hidW HB0
      clear HB0 NAK NKA NA NK N3 hk3 hkA hkK hkAK hkKA hl3 hb3 hDD HH
      go_wp2_with fail
      refine region_late (fun V => V.cell? ⟨W1.heap.size, 0, none⟩ = some (.int .i64 nk) ∧ V.cell? ⟨W1.heap.size, 1, none⟩ = some (.string (bs nt)) ∧ V.cell? ⟨W1.heap.size, 2, none⟩ = some (.int .i64 na) ∧ V.cell? ⟨W1.heap.size, 3, none⟩ = some (.slice nav nks.length ncap)) 9 (by kernel_rfl) ?_
      generalize hV3 : W3.drew = V3 at *
      clear hV3
      have hHeld : V3.cell? ⟨W1.heap.size, 0, none⟩ = some (.int .i64 nk) ∧ V3.cell? ⟨W1.heap.size, 1, none⟩ = some (.string (bs nt)) ∧ V3.cell? ⟨W1.heap.size, 2, none⟩ = some (.int .i64 na) ∧ V3.cell? ⟨W1.heap.size, 3, none⟩ = some (.slice nav nks.length ncap) := ⟨z0, z1, z2, z3⟩
      refine anyL_take (i := 0) (v := ?_) rfl (by kernel_rfl) (by kernel_rfl) (by kernel_rfl) (by kernel_rfl) (fun _ _ _ h => h) (Or.inl ⟨by rfl, ?_⟩) hHeld ?_
      rotate_left 1
      · intro w hSw; (try dsimp only at hSw); go_simp; try with_reducible rfl
      refine anyL_take (i := 1) (v := ?_) rfl (by kernel_rfl) (by kernel_rfl) (by kernel_rfl) (by kernel_rfl) (fun _ _ _ h => h) (Or.inl ⟨by rfl, ?_⟩) hHeld ?_
      rotate_left 1
      · intro w hSw; (try dsimp only at hSw); go_simp; try with_reducible rfl
      refine anyL_take (i := 2) (v := ?_) rfl (by kernel_rfl) (by kernel_rfl) (by kernel_rfl) (by kernel_rfl) (fun _ _ _ h => h) (Or.inl ⟨by rfl, ?_⟩) hHeld ?_
      rotate_left 1
      · intro w hSw; (try dsimp only at hSw); go_simp; try with_reducible rfl
      refine anyL_take (i := 4) (v := ?_) rfl (by kernel_rfl) (by kernel_rfl) (by kernel_rfl) (by kernel_rfl) (fun _ _ _ h => h) (Or.inl ⟨by rfl, ?_⟩) hHeld ?_
      rotate_left 1
      · intro w hSw; (try dsimp only at hSw); go_simp; try with_reducible rfl
      refine anyL_take (i := 5) (v := ?_) rfl (by kernel_rfl) (by kernel_rfl) (by kernel_rfl) (by kernel_rfl) (fun _ _ _ h => h) (Or.inl ⟨by rfl, ?_⟩) hHeld ?_
      rotate_left 1
      · intro w hSw; (try dsimp only at hSw); go_simp; try with_reducible rfl
      refine anyL_ready (rs := [3, 6]) (by kernel_rfl) (by simp) (ReadyL.cons rfl (fun K hK => ?_) (ReadyL.cons rfl (fun K hK => ?_) (ReadyL.nil)))
      · go_simp
        refine hK.out _ _ (⟨by assumption, by assumption, by assumption, by assumption⟩) (fun hHeld => ?_)
        clear hK K
        refine anyL_ready (rs := [6]) (by kernel_rfl) (by simp) (ReadyL.cons rfl (fun K hK => ?_) (ReadyL.nil))
        · go_simp
          refine hK.out _ _ (⟨by assumption, by assumption, by assumption, by assumption⟩) (fun hHeld => ?_)
          clear hK K
          refine anyL_ready (rs := [7]) (by kernel_rfl) (by simp) (ReadyL.cons rfl (fun K hK => ?_) (ReadyL.nil))
          · go_simp
            refine hK.out _ _ (hHeld) (fun hHeld => ?_)
            clear hK K
            refine anyL_take (i := 8) (v := ?_) rfl (by kernel_rfl) (by kernel_rfl) (by kernel_rfl) (by kernel_rfl) (fun _ _ _ h => h) (Or.inl ⟨by rfl, ?_⟩) hHeld ?_
            rotate_left 1
            · intro w hSw; (try dsimp only at hSw); go_simp; try with_reducible rfl
            refine anyL_ready (rs := [9]) (by kernel_rfl) (by simp) (ReadyL.late rfl (by kernel_rfl) (fun K hK => ?_) (ReadyL.nil))
            · go_simp
              refine hK.out _ _ ?_
              clear hK K
              refine anyL_done (by kernel_rfl) ?_ _
              go_wp2
              refine bodyPost_ret (v := .tuple #[]) (by simp [results, Try.results86, go_sem]) rfl ?_
              first | exact HA.out | exact HB.out
      · go_simp
        refine hK.out _ _ (⟨by assumption, by assumption, by assumption, by assumption⟩) (fun hHeld => ?_)
        clear hK K
        refine anyL_ready (rs := [3]) (by kernel_rfl) (by simp) (ReadyL.cons rfl (fun K hK => ?_) (ReadyL.nil))
        · go_simp
          refine hK.out _ _ (⟨by assumption, by assumption, by assumption, by assumption⟩) (fun hHeld => ?_)
          clear hK K
          refine anyL_ready (rs := [7]) (by kernel_rfl) (by simp) (ReadyL.cons rfl (fun K hK => ?_) (ReadyL.nil))
          · go_simp
            refine hK.out _ _ (hHeld) (fun hHeld => ?_)
            clear hK K
            refine anyL_take (i := 8) (v := ?_) rfl (by kernel_rfl) (by kernel_rfl) (by kernel_rfl) (by kernel_rfl) (fun _ _ _ h => h) (Or.inl ⟨by rfl, ?_⟩) hHeld ?_
            rotate_left 1
            · intro w hSw; (try dsimp only at hSw); go_simp; try with_reducible rfl
            refine anyL_ready (rs := [9]) (by kernel_rfl) (by simp) (ReadyL.late rfl (by kernel_rfl) (fun K hK => ?_) (ReadyL.nil))
            · go_simp
              refine hK.out _ _ ?_
              clear hK K
              refine anyL_done (by kernel_rfl) ?_ _
              go_wp2
              refine bodyPost_ret (v := .tuple #[]) (by simp [results, Try.results86, go_sem]) rfl ?_
              first | exact HA.out | exact HB.out
    | true =>
      rw [q1] at hIS
      have hw : lineF ts v s = (.mk 11 [] (nextT ts s).a [(.mk nk nt na nav ncap nblk noff nks : Nv).nd, (v.e (wantS ts [61] (v.e s).2)).1], (v.e (wantS ts [61] (v.e s).2)).2) := by rw [HF.out, if_neg (by simp [q1])]
      have HW := hidW hw
      clear hk HF q1 hw
      go_wp2_with fail
      refine hIS.out.mono ?_; clear hIS; rintro e W3 ⟨rfl, hb3⟩
      have HB3 := hidW (And.intro (HH.out.1.below hb3) (And.intro ((hb3.block W1.heap.size (by simp)).trans HH.out.2.1) (HH.out.2.2.turns (turns_b (Q := fun _ => False) hb3) (fun _ _ _ h => h))))
      clear HH hb3
      have hT := hidW (want_is HB3.out.1.par [61])
      go_wp2_with fail
      refine hT.out.mono ?_; clear hT; rintro e W4 ⟨rfl, p4, t4⟩
      have N4 := (HB3.out.1.step p4 t4).below (bel_d W4)
      have hk4 : W4.drew.heap[W1.heap.size]? = some (.cells #[.int .i64 nk, .string (bs nt), .int .i64 na, .slice nav nks.length ncap] 24 (0, 0)) := (t4.block _ (lt_of HB3.out.2.1) (by omega)).trans HB3.out.2.1
      have hl4 : LiesD (fun b => W.heap.size ≤ b) W4.drew (.mk nk nt na nav ncap nblk noff nks) := (HB3.out.2.2.turns t4 (fun b hb _ => by omega)).turns (turns_b (Q := fun _ => False) (bel_d W4)) (fun _ _ _ h => h)
      have hs4 : W1.heap.size < W4.drew.heap.size := lt_of hk4
      have z0 := cell_of hk4 0
      have z1 := cell_of hk4 1
      have z2 := cell_of hk4 2
      have z3 := cell_of hk4 3
      simp only [List.getElem?_toArray, List.getElem?_cons_zero, List.getElem?_cons_succ] at z0 z1 z2 z3
      have hD := hidW (HV.out.e (wantS ts [61] (v.e s).2) _ N4.par)
      have H4 := hidW (And.intro N4 (And.intro hk4 hl4))
      clear N4 hk4 hl4 p4 t4 HB3
      go_wp2_with fail
      refine region_late (fun V => V.cell? ⟨W1.heap.size, 0, none⟩ = some (.int .i64 nk) ∧ V.cell? ⟨W1.heap.size, 1, none⟩ = some (.string (bs nt)) ∧ V.cell? ⟨W1.heap.size, 2, none⟩ = some (.int .i64 na) ∧ V.cell? ⟨W1.heap.size, 3, none⟩ = some (.slice nav nks.length ncap)) 13 (by kernel_rfl) ?_
      generalize hV4 : W4.drew = V4 at *
      clear hV4
      have hHeld : V4.cell? ⟨W1.heap.size, 0, none⟩ = some (.int .i64 nk) ∧ V4.cell? ⟨W1.heap.size, 1, none⟩ = some (.string (bs nt)) ∧ V4.cell? ⟨W1.heap.size, 2, none⟩ = some (.int .i64 na) ∧ V4.cell? ⟨W1.heap.size, 3, none⟩ = some (.slice nav nks.length ncap) := ⟨z0, z1, z2, z3⟩
      refine anyL_take (i := 0) (v := ?_) rfl (by kernel_rfl) (by kernel_rfl) (by kernel_rfl) (by kernel_rfl) (fun _ _ _ h => h) (Or.inl ⟨by rfl, ?_⟩) hHeld ?_
      rotate_left 1
      · intro w hSw; (try dsimp only at hSw); go_simp; try with_reducible rfl
      refine anyL_take (i := 1) (v := ?_) rfl (by kernel_rfl) (by kernel_rfl) (by kernel_rfl) (by kernel_rfl) (fun _ _ _ h => h) (Or.inl ⟨by rfl, ?_⟩) hHeld ?_
      rotate_left 1
      · intro w hSw; (try dsimp only at hSw); go_simp; try with_reducible rfl
      refine anyL_take (i := 2) (v := ?_) rfl (by kernel_rfl) (by kernel_rfl) (by kernel_rfl) (by kernel_rfl) (fun _ _ _ h => h) (Or.inl ⟨by rfl, ?_⟩) hHeld ?_
      rotate_left 1
      · intro w hSw; (try dsimp only at hSw); go_simp; try with_reducible rfl
      refine anyL_take (i := 3) (v := ?_) rfl (by kernel_rfl) (by kernel_rfl) (by kernel_rfl) (by kernel_rfl) (fun _ _ _ h => h) (Or.inl ⟨by rfl, ?_⟩) hHeld ?_
      rotate_left 1
      · intro w hSw; (try dsimp only at hSw); go_simp; try with_reducible rfl
      refine anyL_take (i := 4) (v := ?_) rfl (by kernel_rfl) (by kernel_rfl) (by kernel_rfl) (by kernel_rfl) (fun _ _ _ h => h) (Or.inl ⟨by rfl, ?_⟩) hHeld ?_
      rotate_left 1
      · intro w hSw; (try dsimp only at hSw); go_simp; try with_reducible rfl
      refine anyL_take (i := 5) (v := ?_) rfl (by kernel_rfl) (by kernel_rfl) (by kernel_rfl) (by kernel_rfl) (fun _ _ _ h => h) (Or.inl ⟨by rfl, ?_⟩) hHeld ?_
      rotate_left 1
      · intro w hSw; (try dsimp only at hSw); go_simp; try with_reducible rfl
      refine anyL_ready (rs := [6]) (by kernel_rfl) (by simp) (ReadyL.cons rfl (fun K hK => ?_) (ReadyL.nil))
      · go_simp
        refine hD.out.mono ?_
        rintro e W5 ⟨⟨mk, mt, ma, mav, mcap, mblk, moff, mks⟩, rfl, hl5, hn5, p5, t5⟩
        have N5 := H4.out.1.step p5 t5
        have hk5 : W5.heap[W1.heap.size]? = some (.cells #[.int .i64 nk, .string (bs nt), .int .i64 na, .slice nav nks.length ncap] 24 (0, 0)) := (t5.block _ hs4 (by omega)).trans H4.out.2.1
        have hs5 : W1.heap.size < W5.heap.size := lt_of hk5
        have hn4 : LiesD (fun b => W.heap.size ≤ b) W5 (.mk nk nt na nav ncap nblk noff nks) := H4.out.2.2.turns t5 (fun b hb _ => by omega)
        have hm5 : LiesD (fun b => W.heap.size ≤ b) W5 (.mk mk mt ma mav mcap mblk moff mks) := LiesD.mono hl5 (fun b hb _ => by omega)
        have NA := N5.below (bel_new W5 (.cells #[.int .i64 nk, .string (bs nt), .int .i64 na, .slice nav nks.length ncap, .int .i64 mk, .string (bs mt), .int .i64 ma, .slice mav mks.length mcap] 24))
        have hkA : (W5.alloc (.cells #[.int .i64 nk, .string (bs nt), .int .i64 na, .slice nav nks.length ncap, .int .i64 mk, .string (bs mt), .int .i64 ma, .slice mav mks.length mcap] 24)).heap[W1.heap.size]? = some (.cells #[.int .i64 nk, .string (bs nt), .int .i64 na, .slice nav nks.length ncap] 24 (0, 0)) := (bel_new W5 (.cells #[.int .i64 nk, .string (bs nt), .int .i64 na, .slice nav nks.length ncap, .int .i64 mk, .string (bs mt), .int .i64 ma, .slice mav mks.length mcap] 24)).block _ hs5 |>.trans hk5
        have NK := N5.set0 (.int .i64 11)
        have hkK : (W5.setCell ⟨b1, 0, none⟩ (.int .i64 11)).heap[W1.heap.size]? = some (.cells #[.int .i64 nk, .string (bs nt), .int .i64 na, .slice nav nks.length ncap] 24 (0, 0)) := ((turns_p b1 0 (.int .i64 11) W5).block _ hs5 (by omega)).trans hk5
        have NAK := NA.set0 (.int .i64 11)
        have hkAK := ((turns_p b1 0 (.int .i64 11) (W5.alloc (.cells #[.int .i64 nk, .string (bs nt), .int .i64 na, .slice nav nks.length ncap, .int .i64 mk, .string (bs mt), .int .i64 ma, .slice mav mks.length mcap] 24))).block W1.heap.size (lt_of hkA) (by omega)).trans hkA
        have NKA := NK.below (bel_new _ (.cells #[.int .i64 nk, .string (bs nt), .int .i64 na, .slice nav nks.length ncap, .int .i64 mk, .string (bs mt), .int .i64 ma, .slice mav mks.length mcap] 24))
        have hkKA := ((bel_new (W5.setCell ⟨b1, 0, none⟩ (.int .i64 11)) (.cells #[.int .i64 nk, .string (bs nt), .int .i64 na, .slice nav nks.length ncap, .int .i64 mk, .string (bs mt), .int .i64 ma, .slice mav mks.length mcap] 24)).block _ (lt_of hkK)).trans hkK
        have x0 := cell_of hk5 0
        have x1 := cell_of hk5 1
        have x2 := cell_of hk5 2
        have x3 := cell_of hk5 3
        have a0 := cell_of hkA 0
        have a1 := cell_of hkA 1
        have a2 := cell_of hkA 2
        have a3 := cell_of hkA 3
        have y0 := cell_of hkK 0
        have y1 := cell_of hkK 1
        have y2 := cell_of hkK 2
        have y3 := cell_of hkK 3
        have c0 := cell_of hkAK 0
        have c1 := cell_of hkAK 1
        have c2 := cell_of hkAK 2
        have c3 := cell_of hkAK 3
        have d0 := cell_of hkKA 0
        have d1 := cell_of hkKA 1
        have d2 := cell_of hkKA 2
        have d3 := cell_of hkKA 3
        have n0 := cell_of N5.nod 0
        have m0 := frozen_of N5.nod 0
        have f0 := cell_of NA.nod 0
        have g0 := frozen_of NA.nod 0
        have f3 := cell_of NAK.nod 3
        have g3 := frozen_of NAK.nod 3
        have h3 := cell_of NKA.nod 3
        have i3 := frozen_of NKA.nod 3
        simp only [List.getElem?_toArray, List.getElem?_cons_zero, List.getElem?_cons_succ] at x0 x1 x2 x3 n0 a0 a1 a2 a3 y0 y1 y2 y3 c0 c1 c2 c3 d0 d1 d2 d3 f0 f3 h3
        have hDD : (fun b => W.heap.size ≤ b) W5.heap.size := by show W.heap.size ≤ _; omega
        have hw2 : lineF ts v s = (.mk 11 [] (nextT ts s).a ([.mk nk nt na nav ncap nblk noff nks, .mk mk mt ma mav mcap mblk moff mks].map Nv.nd), (v.e (wantS ts [61] (v.e s).2)).2) := by rw [HW.out, List.map_cons, List.map_cons, List.map_nil, hn5]
        have HA := hidW (LnFin (w := lineF ts v) (s := s) (T := []) (kcap := 2) NAK (row_box (rowD_two (D := fun b => W.heap.size ≤ b) (W := W5) (.mk nk nt na nav ncap nblk noff nks) (.mk mk mt ma mav mcap mblk moff mks) hDD) hbl) (lies_all_two (lies_box (lies_new hn4 _) hbl) (lies_box (lies_new hm5 _) hbl)) hw2)
        have HB0 := LnFin (w := lineF ts v) (s := s) (T := []) (kcap := 2) NKA (rowD_two (D := fun b => W.heap.size ≤ b) (W := W5.setCell ⟨b1, 0, none⟩ (.int .i64 11)) (.mk nk nt na nav ncap nblk noff nks) (.mk mk mt ma mav mcap mblk moff mks) (by rw [size_set]; exact hDD)) (lies_all_two (lies_new (lies_box hn4 hbl) _) (lies_new (lies_box hm5 hbl) _)) hw2
        rw [size_set] at HB0
        have HB := hidW HB0
        clear HB0 NAK NKA NA NK N5 hk5 hkA hkK hkAK hkKA hn4 hm5 hDD hl5 hn5 p5 t5 hw2
        go_wp2_with fail
        refine hK.out _ _ (⟨by assumption, by assumption, by assumption, by assumption⟩) (fun hHeld => ?_)
        clear hK K
        refine anyL_take (i := 8) (v := ?_) rfl (by kernel_rfl) (by kernel_rfl) (by kernel_rfl) (by kernel_rfl) (fun _ _ _ h => h) (Or.inl ⟨by rfl, ?_⟩) hHeld ?_
        rotate_left 1
        · intro w hSw; (try dsimp only at hSw); go_simp; try with_reducible rfl
        refine anyL_take (i := 9) (v := ?_) rfl (by kernel_rfl) (by kernel_rfl) (by kernel_rfl) (by kernel_rfl) (fun _ _ _ h => h) (Or.inl ⟨by rfl, ?_⟩) hHeld ?_
        rotate_left 1
        · intro w hSw; (try dsimp only at hSw); go_simp; try with_reducible rfl
        refine anyL_ready (rs := [7, 10]) (by kernel_rfl) (by simp) (ReadyL.cons rfl (fun K hK => ?_) (ReadyL.cons rfl (fun K hK => ?_) (ReadyL.nil)))
        · go_simp
          refine hK.out _ _ (⟨by assumption, by assumption, by assumption, by assumption⟩) (fun hHeld => ?_)
          clear hK K
          refine anyL_ready (rs := [10]) (by kernel_rfl) (by simp) (ReadyL.cons rfl (fun K hK => ?_) (ReadyL.nil))
          · go_simp
            refine hK.out _ _ (⟨by assumption, by assumption, by assumption, by assumption⟩) (fun hHeld => ?_)
            clear hK K
            refine anyL_ready (rs := [11]) (by kernel_rfl) (by simp) (ReadyL.cons rfl (fun K hK => ?_) (ReadyL.nil))
            · go_simp
              refine hK.out _ _ (hHeld) (fun hHeld => ?_)
              clear hK K
              refine anyL_take (i := 12) (v := ?_) rfl (by kernel_rfl) (by kernel_rfl) (by kernel_rfl) (by kernel_rfl) (fun _ _ _ h => h) (Or.inl ⟨by rfl, ?_⟩) hHeld ?_
              rotate_left 1
              · intro w hSw; (try dsimp only at hSw); go_simp; try with_reducible rfl
              refine anyL_ready (rs := [13]) (by kernel_rfl) (by simp) (ReadyL.late rfl (by kernel_rfl) (fun K hK => ?_) (ReadyL.nil))
              · go_simp
                refine hK.out _ _ ?_
                clear hK K
                refine anyL_done (by kernel_rfl) ?_ _
                go_wp2
                refine bodyPost_end (v := .tuple #[]) (by simp [results, Try.results86, go_sem]) rfl ?_
                first | exact HA.out | exact HB.out
        · go_simp
          refine hK.out _ _ (⟨by assumption, by assumption, by assumption, by assumption⟩) (fun hHeld => ?_)
          clear hK K
          refine anyL_ready (rs := [7]) (by kernel_rfl) (by simp) (ReadyL.cons rfl (fun K hK => ?_) (ReadyL.nil))
          · go_simp
            refine hK.out _ _ (⟨by assumption, by assumption, by assumption, by assumption⟩) (fun hHeld => ?_)
            clear hK K
            refine anyL_ready (rs := [11]) (by kernel_rfl) (by simp) (ReadyL.cons rfl (fun K hK => ?_) (ReadyL.nil))
            · go_simp
              refine hK.out _ _ (hHeld) (fun hHeld => ?_)
              clear hK K
              refine anyL_take (i := 12) (v := ?_) rfl (by kernel_rfl) (by kernel_rfl) (by kernel_rfl) (by kernel_rfl) (fun _ _ _ h => h) (Or.inl ⟨by rfl, ?_⟩) hHeld ?_
              rotate_left 1
              · intro w hSw; (try dsimp only at hSw); go_simp; try with_reducible rfl
              refine anyL_ready (rs := [13]) (by kernel_rfl) (by simp) (ReadyL.late rfl (by kernel_rfl) (fun K hK => ?_) (ReadyL.nil))
              · go_simp
                refine hK.out _ _ ?_
                clear hK K
                refine anyL_done (by kernel_rfl) ?_ _
                go_wp2
                refine bodyPost_end (v := .tuple #[]) (by simp [results, Try.results86, go_sem]) rfl ?_
                first | exact HA.out | exact HB.out
  · have e1 : (nk == 25) = false := by simp [hk]
    have hw : lineF ts v s = (.mk 11 [] (nextT ts s).a [(.mk nk nt na nav ncap nblk noff nks : Nv).nd, (v.e (wantS ts [61] (v.e s).2)).1], (v.e (wantS ts [61] (v.e s).2)).2) := by rw [HF.out, if_neg (by simp [hk])]
    have HW := hidW hw
    have HB3 := HH
    clear hk HF hw hIS HH
    have hT := hidW (want_is HB3.out.1.par [61])
    go_wp2_with fail
    refine hT.out.mono ?_; clear hT; rintro e W4 ⟨rfl, p4, t4⟩
    have N4 := (HB3.out.1.step p4 t4).below (bel_d W4)
    have hk4 : W4.drew.heap[W1.heap.size]? = some (.cells #[.int .i64 nk, .string (bs nt), .int .i64 na, .slice nav nks.length ncap] 24 (0, 0)) := (t4.block _ (lt_of HB3.out.2.1) (by omega)).trans HB3.out.2.1
    have hl4 : LiesD (fun b => W.heap.size ≤ b) W4.drew (.mk nk nt na nav ncap nblk noff nks) := (HB3.out.2.2.turns t4 (fun b hb _ => by omega)).turns (turns_b (Q := fun _ => False) (bel_d W4)) (fun _ _ _ h => h)
    have hs4 : W1.heap.size < W4.drew.heap.size := lt_of hk4
    have z0 := cell_of hk4 0
    have z1 := cell_of hk4 1
    have z2 := cell_of hk4 2
    have z3 := cell_of hk4 3
    simp only [List.getElem?_toArray, List.getElem?_cons_zero, List.getElem?_cons_succ] at z0 z1 z2 z3
    have hD := hidW (HV.out.e (wantS ts [61] (v.e s).2) _ N4.par)
    have H4 := hidW (And.intro N4 (And.intro hk4 hl4))
    clear N4 hk4 hl4 p4 t4 HB3
    go_wp2_with fail
    refine region_late (fun V => V.cell? ⟨W1.heap.size, 0, none⟩ = some (.int .i64 nk) ∧ V.cell? ⟨W1.heap.size, 1, none⟩ = some (.string (bs nt)) ∧ V.cell? ⟨W1.heap.size, 2, none⟩ = some (.int .i64 na) ∧ V.cell? ⟨W1.heap.size, 3, none⟩ = some (.slice nav nks.length ncap)) 13 (by kernel_rfl) ?_
    generalize hV4 : W4.drew = V4 at *
    clear hV4
    have hHeld : V4.cell? ⟨W1.heap.size, 0, none⟩ = some (.int .i64 nk) ∧ V4.cell? ⟨W1.heap.size, 1, none⟩ = some (.string (bs nt)) ∧ V4.cell? ⟨W1.heap.size, 2, none⟩ = some (.int .i64 na) ∧ V4.cell? ⟨W1.heap.size, 3, none⟩ = some (.slice nav nks.length ncap) := ⟨z0, z1, z2, z3⟩
    refine anyL_take (i := 0) (v := ?_) rfl (by kernel_rfl) (by kernel_rfl) (by kernel_rfl) (by kernel_rfl) (fun _ _ _ h => h) (Or.inl ⟨by rfl, ?_⟩) hHeld ?_
    rotate_left 1
    · intro w hSw; (try dsimp only at hSw); go_simp; try with_reducible rfl
    refine anyL_take (i := 1) (v := ?_) rfl (by kernel_rfl) (by kernel_rfl) (by kernel_rfl) (by kernel_rfl) (fun _ _ _ h => h) (Or.inl ⟨by rfl, ?_⟩) hHeld ?_
    rotate_left 1
    · intro w hSw; (try dsimp only at hSw); go_simp; try with_reducible rfl
    refine anyL_take (i := 2) (v := ?_) rfl (by kernel_rfl) (by kernel_rfl) (by kernel_rfl) (by kernel_rfl) (fun _ _ _ h => h) (Or.inl ⟨by rfl, ?_⟩) hHeld ?_
    rotate_left 1
    · intro w hSw; (try dsimp only at hSw); go_simp; try with_reducible rfl
    refine anyL_take (i := 3) (v := ?_) rfl (by kernel_rfl) (by kernel_rfl) (by kernel_rfl) (by kernel_rfl) (fun _ _ _ h => h) (Or.inl ⟨by rfl, ?_⟩) hHeld ?_
    rotate_left 1
    · intro w hSw; (try dsimp only at hSw); go_simp; try with_reducible rfl
    refine anyL_take (i := 4) (v := ?_) rfl (by kernel_rfl) (by kernel_rfl) (by kernel_rfl) (by kernel_rfl) (fun _ _ _ h => h) (Or.inl ⟨by rfl, ?_⟩) hHeld ?_
    rotate_left 1
    · intro w hSw; (try dsimp only at hSw); go_simp; try with_reducible rfl
    refine anyL_take (i := 5) (v := ?_) rfl (by kernel_rfl) (by kernel_rfl) (by kernel_rfl) (by kernel_rfl) (fun _ _ _ h => h) (Or.inl ⟨by rfl, ?_⟩) hHeld ?_
    rotate_left 1
    · intro w hSw; (try dsimp only at hSw); go_simp; try with_reducible rfl
    refine anyL_ready (rs := [6]) (by kernel_rfl) (by simp) (ReadyL.cons rfl (fun K hK => ?_) (ReadyL.nil))
    · go_simp
      refine hD.out.mono ?_
      rintro e W5 ⟨⟨mk, mt, ma, mav, mcap, mblk, moff, mks⟩, rfl, hl5, hn5, p5, t5⟩
      have N5 := H4.out.1.step p5 t5
      have hk5 : W5.heap[W1.heap.size]? = some (.cells #[.int .i64 nk, .string (bs nt), .int .i64 na, .slice nav nks.length ncap] 24 (0, 0)) := (t5.block _ hs4 (by omega)).trans H4.out.2.1
      have hs5 : W1.heap.size < W5.heap.size := lt_of hk5
      have hn4 : LiesD (fun b => W.heap.size ≤ b) W5 (.mk nk nt na nav ncap nblk noff nks) := H4.out.2.2.turns t5 (fun b hb _ => by omega)
      have hm5 : LiesD (fun b => W.heap.size ≤ b) W5 (.mk mk mt ma mav mcap mblk moff mks) := LiesD.mono hl5 (fun b hb _ => by omega)
      have NA := N5.below (bel_new W5 (.cells #[.int .i64 nk, .string (bs nt), .int .i64 na, .slice nav nks.length ncap, .int .i64 mk, .string (bs mt), .int .i64 ma, .slice mav mks.length mcap] 24))
      have hkA : (W5.alloc (.cells #[.int .i64 nk, .string (bs nt), .int .i64 na, .slice nav nks.length ncap, .int .i64 mk, .string (bs mt), .int .i64 ma, .slice mav mks.length mcap] 24)).heap[W1.heap.size]? = some (.cells #[.int .i64 nk, .string (bs nt), .int .i64 na, .slice nav nks.length ncap] 24 (0, 0)) := (bel_new W5 (.cells #[.int .i64 nk, .string (bs nt), .int .i64 na, .slice nav nks.length ncap, .int .i64 mk, .string (bs mt), .int .i64 ma, .slice mav mks.length mcap] 24)).block _ hs5 |>.trans hk5
      have NK := N5.set0 (.int .i64 11)
      have hkK : (W5.setCell ⟨b1, 0, none⟩ (.int .i64 11)).heap[W1.heap.size]? = some (.cells #[.int .i64 nk, .string (bs nt), .int .i64 na, .slice nav nks.length ncap] 24 (0, 0)) := ((turns_p b1 0 (.int .i64 11) W5).block _ hs5 (by omega)).trans hk5
      have NAK := NA.set0 (.int .i64 11)
      have hkAK := ((turns_p b1 0 (.int .i64 11) (W5.alloc (.cells #[.int .i64 nk, .string (bs nt), .int .i64 na, .slice nav nks.length ncap, .int .i64 mk, .string (bs mt), .int .i64 ma, .slice mav mks.length mcap] 24))).block W1.heap.size (lt_of hkA) (by omega)).trans hkA
      have NKA := NK.below (bel_new _ (.cells #[.int .i64 nk, .string (bs nt), .int .i64 na, .slice nav nks.length ncap, .int .i64 mk, .string (bs mt), .int .i64 ma, .slice mav mks.length mcap] 24))
      have hkKA := ((bel_new (W5.setCell ⟨b1, 0, none⟩ (.int .i64 11)) (.cells #[.int .i64 nk, .string (bs nt), .int .i64 na, .slice nav nks.length ncap, .int .i64 mk, .string (bs mt), .int .i64 ma, .slice mav mks.length mcap] 24)).block _ (lt_of hkK)).trans hkK
      have x0 := cell_of hk5 0
      have x1 := cell_of hk5 1
      have x2 := cell_of hk5 2
      have x3 := cell_of hk5 3
      have a0 := cell_of hkA 0
      have a1 := cell_of hkA 1
      have a2 := cell_of hkA 2
      have a3 := cell_of hkA 3
      have y0 := cell_of hkK 0
      have y1 := cell_of hkK 1
      have y2 := cell_of hkK 2
      have y3 := cell_of hkK 3
      have c0 := cell_of hkAK 0
      have c1 := cell_of hkAK 1
      have c2 := cell_of hkAK 2
      have c3 := cell_of hkAK 3
      have d0 := cell_of hkKA 0
      have d1 := cell_of hkKA 1
      have d2 := cell_of hkKA 2
      have d3 := cell_of hkKA 3
      have n0 := cell_of N5.nod 0
      have m0 := frozen_of N5.nod 0
      have f0 := cell_of NA.nod 0
      have g0 := frozen_of NA.nod 0
      have f3 := cell_of NAK.nod 3
      have g3 := frozen_of NAK.nod 3
      have h3 := cell_of NKA.nod 3
      have i3 := frozen_of NKA.nod 3
      simp only [List.getElem?_toArray, List.getElem?_cons_zero, List.getElem?_cons_succ] at x0 x1 x2 x3 n0 a0 a1 a2 a3 y0 y1 y2 y3 c0 c1 c2 c3 d0 d1 d2 d3 f0 f3 h3
      have hDD : (fun b => W.heap.size ≤ b) W5.heap.size := by show W.heap.size ≤ _; omega
      have hw2 : lineF ts v s = (.mk 11 [] (nextT ts s).a ([.mk nk nt na nav ncap nblk noff nks, .mk mk mt ma mav mcap mblk moff mks].map Nv.nd), (v.e (wantS ts [61] (v.e s).2)).2) := by rw [HW.out, List.map_cons, List.map_cons, List.map_nil, hn5]
      have HA := hidW (LnFin (w := lineF ts v) (s := s) (T := []) (kcap := 2) NAK (row_box (rowD_two (D := fun b => W.heap.size ≤ b) (W := W5) (.mk nk nt na nav ncap nblk noff nks) (.mk mk mt ma mav mcap mblk moff mks) hDD) hbl) (lies_all_two (lies_box (lies_new hn4 _) hbl) (lies_box (lies_new hm5 _) hbl)) hw2)
      have HB0 := LnFin (w := lineF ts v) (s := s) (T := []) (kcap := 2) NKA (rowD_two (D := fun b => W.heap.size ≤ b) (W := W5.setCell ⟨b1, 0, none⟩ (.int .i64 11)) (.mk nk nt na nav ncap nblk noff nks) (.mk mk mt ma mav mcap mblk moff mks) (by rw [size_set]; exact hDD)) (lies_all_two (lies_new (lies_box hn4 hbl) _) (lies_new (lies_box hm5 hbl) _)) hw2
      rw [size_set] at HB0
      have HB := hidW HB0
      clear HB0 NAK NKA NA NK N5 hk5 hkA hkK hkAK hkKA hn4 hm5 hDD hl5 hn5 p5 t5 hw2
      go_wp2_with fail
      refine hK.out _ _ (⟨by assumption, by assumption, by assumption, by assumption⟩) (fun hHeld => ?_)
      clear hK K
      refine anyL_take (i := 8) (v := ?_) rfl (by kernel_rfl) (by kernel_rfl) (by kernel_rfl) (by kernel_rfl) (fun _ _ _ h => h) (Or.inl ⟨by rfl, ?_⟩) hHeld ?_
      rotate_left 1
      · intro w hSw; (try dsimp only at hSw); go_simp; try with_reducible rfl
      refine anyL_take (i := 9) (v := ?_) rfl (by kernel_rfl) (by kernel_rfl) (by kernel_rfl) (by kernel_rfl) (fun _ _ _ h => h) (Or.inl ⟨by rfl, ?_⟩) hHeld ?_
      rotate_left 1
      · intro w hSw; (try dsimp only at hSw); go_simp; try with_reducible rfl
      refine anyL_ready (rs := [7, 10]) (by kernel_rfl) (by simp) (ReadyL.cons rfl (fun K hK => ?_) (ReadyL.cons rfl (fun K hK => ?_) (ReadyL.nil)))
      · go_simp
        refine hK.out _ _ (⟨by assumption, by assumption, by assumption, by assumption⟩) (fun hHeld => ?_)
        clear hK K
        refine anyL_ready (rs := [10]) (by kernel_rfl) (by simp) (ReadyL.cons rfl (fun K hK => ?_) (ReadyL.nil))
        · go_simp
          refine hK.out _ _ (⟨by assumption, by assumption, by assumption, by assumption⟩) (fun hHeld => ?_)
          clear hK K
          refine anyL_ready (rs := [11]) (by kernel_rfl) (by simp) (ReadyL.cons rfl (fun K hK => ?_) (ReadyL.nil))
          · go_simp
            refine hK.out _ _ (hHeld) (fun hHeld => ?_)
            clear hK K
            refine anyL_take (i := 12) (v := ?_) rfl (by kernel_rfl) (by kernel_rfl) (by kernel_rfl) (by kernel_rfl) (fun _ _ _ h => h) (Or.inl ⟨by rfl, ?_⟩) hHeld ?_
            rotate_left 1
            · intro w hSw; (try dsimp only at hSw); go_simp; try with_reducible rfl
            refine anyL_ready (rs := [13]) (by kernel_rfl) (by simp) (ReadyL.late rfl (by kernel_rfl) (fun K hK => ?_) (ReadyL.nil))
            · go_simp
              refine hK.out _ _ ?_
              clear hK K
              refine anyL_done (by kernel_rfl) ?_ _
              go_wp2
              refine bodyPost_end (v := .tuple #[]) (by simp [results, Try.results86, go_sem]) rfl ?_
              first | exact HA.out | exact HB.out
      · go_simp
        refine hK.out _ _ (⟨by assumption, by assumption, by assumption, by assumption⟩) (fun hHeld => ?_)
        clear hK K
        refine anyL_ready (rs := [7]) (by kernel_rfl) (by simp) (ReadyL.cons rfl (fun K hK => ?_) (ReadyL.nil))
        · go_simp
          refine hK.out _ _ (⟨by assumption, by assumption, by assumption, by assumption⟩) (fun hHeld => ?_)
          clear hK K
          refine anyL_ready (rs := [11]) (by kernel_rfl) (by simp) (ReadyL.cons rfl (fun K hK => ?_) (ReadyL.nil))
          · go_simp
            refine hK.out _ _ (hHeld) (fun hHeld => ?_)
            clear hK K
            refine anyL_take (i := 12) (v := ?_) rfl (by kernel_rfl) (by kernel_rfl) (by kernel_rfl) (by kernel_rfl) (fun _ _ _ h => h) (Or.inl ⟨by rfl, ?_⟩) hHeld ?_
            rotate_left 1
            · intro w hSw; (try dsimp only at hSw); go_simp; try with_reducible rfl
            refine anyL_ready (rs := [13]) (by kernel_rfl) (by simp) (ReadyL.late rfl (by kernel_rfl) (fun K hK => ?_) (ReadyL.nil))
            · go_simp
              refine hK.out _ _ ?_
              clear hK K
              refine anyL_done (by kernel_rfl) ?_ _
              go_wp2
              refine bodyPost_end (v := .tuple #[]) (by simp [results, Try.results86, go_sem]) rfl ?_
              first | exact HA.out | exact HB.out

end Go.Proofs.Ytgndnodahlabiaa
