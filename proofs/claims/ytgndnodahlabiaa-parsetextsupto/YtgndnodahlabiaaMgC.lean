/-
  A parser in memory (layer 10): how trees and tokens lie, and the contracts of its smallest steps.
  The parser's smallest steps (layer 10): what comes next, and taking it.
  The parser's smallest steps (layer 10): failing, taking, wanting, names and numbers, a node's beginning.
  One depth more (layer 10): the contract of the parser's deeper, of a function value that has one.
-/
import Derived.Test.YtgndnodahlabiaaMgA
import Derived.Test.YtgndnodahlabiaaLex
import Derived.Test.YtgndnodahlabiaaJn

/- A parser in memory (layer 10): how trees and tokens lie, and the contracts of its smallest steps. -/
namespace Go.Proofs.Ytgndnodahlabiaa
open Go.ChangeShapes Go.WideShapes Go.ChangeAt Go.RowKit

/-- A tree as it lies: beside what it is, where its kids lie. -/
inductive Nv where
  | mk (k : Int) (t : List UInt8) (a : Int) (av : Option Addr) (cap blk off : Nat) (ks : List Nv)
abbrev Nv.cs : Nv → List Value | .mk k t a av cap _ _ ks => [.int .i64 k, .string (bs t), .int .i64 a, .slice av ks.length cap]
abbrev Nv.val (n : Nv) : Value := .agg n.cs.toArray
mutual
def Nv.nd : Nv → Nd | .mk k t a _ _ _ _ ks => .mk k t a (ndL ks)
def ndL : List Nv → List Nd
  | [] => []
  | n :: r => n.nd :: ndL r
end
theorem ndL_map : ∀ l : List Nv, ndL l = l.map Nv.nd
  | [] => by rw [ndL]; rfl
  | n :: r => by rw [ndL, ndL_map r]; rfl
/-- A row of trees, in a block of D. -/
structure RowD (D : Nat → Prop) (W : World) (av : Option Addr) (blk off : Nat) (ks : List Nv) : Prop where
  at_ : 0 < ks.length → av = some ⟨blk, off, none⟩
  lt : 0 < ks.length → D blk ∧ blk < W.heap.size
  has : ∀ i f, (h : i < ks.length) → f < 4 → W.cell? ⟨blk, off + i * 4 + f, none⟩ = ((ks[i]'h).cs)[f]?
inductive LiesD (D : Nat → Prop) (W : World) : Nv → Prop
  | mk {k : Int} {t : List UInt8} {a : Int} {av : Option Addr} {cap blk off : Nat} {ks : List Nv} : RowD D W av blk off ks → (∀ n, n ∈ ks → LiesD D W n) → ks.length ≤ cap → LiesD D W (.mk k t a av cap blk off ks)
theorem RowD.turns {D : Nat → Prop} {W W' : World} {Q : Nat → Prop} {av : Option Addr} {blk off : Nat} {ks : List Nv} (h : RowD D W av blk off ks) (ht : Turns Q W W') (hq : ∀ b, D b → b < W.heap.size → ¬ Q b) : RowD D W' av blk off ks :=
  ⟨h.at_, fun h0 => ⟨(h.lt h0).1, Nat.lt_of_lt_of_le (h.lt h0).2 ht.size⟩, fun i f hi hf => by
    have hl := h.lt (by omega)
    have := h.has i f hi hf
    simp only [World.cell?] at this ⊢
    rw [ht.block blk hl.2 (hq blk hl.1 hl.2)]; exact this⟩
theorem LiesD.turns {D : Nat → Prop} {W W' : World} {Q : Nat → Prop} {n : Nv} (h : LiesD D W n) (ht : Turns Q W W') (hq : ∀ b, D b → b < W.heap.size → ¬ Q b) : LiesD D W' n := by
  induction h with
  | mk h1 _ hc ih => exact .mk (h1.turns ht hq) (fun n hn => ih n hn) hc
theorem RowD.mono {D D' : Nat → Prop} {W : World} {av : Option Addr} {blk off : Nat} {ks : List Nv} (h : RowD D W av blk off ks) (hb : ∀ b, D b → b < W.heap.size → D' b) : RowD D' W av blk off ks :=
  ⟨h.at_, fun h0 => ⟨hb _ (h.lt h0).1 (h.lt h0).2, (h.lt h0).2⟩, h.has⟩
theorem LiesD.mono {D D' : Nat → Prop} {W : World} {n : Nv} (h : LiesD D W n) (hb : ∀ b, D b → b < W.heap.size → D' b) : LiesD D' W n := by
  induction h with
  | mk h1 _ hc ih => exact .mk (h1.mono hb) (fun n hn => ih n hn) hc
/-- The same, from a block on. -/
abbrev RowT (base : Nat) (W : World) (av : Option Addr) (blk off : Nat) (ks : List Nv) : Prop := RowD (fun b => base ≤ b) W av blk off ks
abbrev Lies (base : Nat) (W : World) (n : Nv) : Prop := LiesD (fun b => base ≤ b) W n
theorem Lies.mono {base base' : Nat} {W : World} {n : Nv} (h : Lies base W n) (hb : base' ≤ base) : Lies base' W n := LiesD.mono h (fun _ h1 _ => Nat.le_trans hb h1)
theorem Lies.turns {base : Nat} {W W' : World} {Q : Nat → Prop} {n : Nv} (h : Lies base W n) (ht : Turns Q W W') (hq : ∀ b, base ≤ b → b < W.heap.size → ¬ Q b) : Lies base W' n := LiesD.turns h ht hq
/-- A leaf. -/
abbrev leafV (k : Int) (t : List UInt8) (a : Int) : Nv := .mk k t a none 0 0 0 []
theorem lies_leaf (base : Nat) (W : World) (k : Int) (t : List UInt8) (a : Int) : Lies base W (leafV k t a) :=
  .mk ⟨fun h => absurd h (by simp), fun h => absurd h (by simp), fun i f h => absurd h (by simp)⟩ (fun n hn => by cases hn) (Nat.le_refl _)

/-- A parser, and the tokens that it goes over. -/
structure ParAt (W : World) (P : Nat) (av : Option Addr) (cap blk off : Nat) (ts : List Tok) (s : St) (r : Nat) : Prop where
  box : W.heap[P]? = some (.cells #[.slice av ts.length cap, .int .i64 (s.pl : Int), .int .i64 (100 - (r : Int)), .int .i64 (s.er : Int)] 63 (0, 0))
  at_ : 0 < ts.length → av = some ⟨blk, off, none⟩
  lt : 0 < ts.length → blk < W.heap.size ∧ blk ≠ P
  has : ∀ i f, i < ts.length → f < 3 → W.cell? ⟨blk, off + i * 3 + f, none⟩ = (tcells (ts.getD i tk0))[f]?
  pl : s.pl ≤ ts.length
  len : ts.length ≤ 100000
  er : s.er ≤ 100
  dp : r ≤ 100
  sh : ∀ x, x ∈ ts → x.t.length ≤ 100000000
theorem ParAt.turns {W W' : World} {Q : Nat → Prop} {P : Nat} {av : Option Addr} {cap blk off : Nat} {ts : List Tok} {s : St} {r : Nat} (h : ParAt W P av cap blk off ts s r) (ht : Turns Q W W') (h1 : ¬ Q P) (h2 : ∀ b, b < W.heap.size → b ≠ P → ¬ Q b) : ParAt W' P av cap blk off ts s r :=
  ⟨(ht.block P (lt_of h.box) h1).trans h.box, h.at_, fun h0 => ⟨Nat.lt_of_lt_of_le (h.lt h0).1 ht.size, (h.lt h0).2⟩, fun i f hi hf => by
    have hl := h.lt (by omega)
    have := h.has i f hi hf
    simp only [World.cell?] at this ⊢
    rw [ht.block blk hl.1 (h2 blk hl.1 hl.2)]; exact this, h.pl, h.len, h.er, h.dp, h.sh⟩
theorem ParAt.below {W W' : World} {P : Nat} {av : Option Addr} {cap blk off : Nat} {ts : List Tok} {s : St} {r : Nat} (h : ParAt W P av cap blk off ts s r) (hb : Below W.heap.size W W') : ParAt W' P av cap blk off ts s r :=
  h.turns (Turns.of_below hb) (by have := lt_of h.box; omega) (fun b hb' _ => by omega)
theorem ParAt.cell {W : World} {P : Nat} {av : Option Addr} {cap blk off : Nat} {ts : List Tok} {s : St} {r : Nat} (h : ParAt W P av cap blk off ts s r) : W.cell? ⟨P, 0, none⟩ = some (.slice av ts.length cap) ∧ W.cell? ⟨P, 1, none⟩ = some (.int .i64 (s.pl : Int)) ∧ W.cell? ⟨P, 2, none⟩ = some (.int .i64 (100 - (r : Int))) ∧ W.cell? ⟨P, 3, none⟩ = some (.int .i64 (s.er : Int)) :=
  ⟨cell_of h.box 0, cell_of h.box 1, cell_of h.box 2, cell_of h.box 3⟩
theorem res3 {W : World} {b : Nat} {T : TypeId} {a0 a1 a2 : Value} (h : W.heap[b]? = some (.cells #[a0, a1, a2] T (0, 0))) (v0 v1 v2 : Value) :
    (((W.setCell ⟨b, 0, none⟩ v0).setCell ⟨b, 1, none⟩ v1).setCell ⟨b, 2, none⟩ v2).cell? ⟨b, 0, none⟩ = some v0 ∧ (((W.setCell ⟨b, 0, none⟩ v0).setCell ⟨b, 1, none⟩ v1).setCell ⟨b, 2, none⟩ v2).cell? ⟨b, 1, none⟩ = some v1 ∧ (((W.setCell ⟨b, 0, none⟩ v0).setCell ⟨b, 1, none⟩ v1).setCell ⟨b, 2, none⟩ v2).cell? ⟨b, 2, none⟩ = some v2 :=
  have h3 := heap_set_same' (heap_set_same' (heap_set_same' h 0 v0) 1 v1) 2 v2
  ⟨cell_of h3 0, cell_of h3 1, cell_of h3 2⟩
theorem bel_drewN {B : Nat} {a b : World} (h : Below B a b) (n : Nat) : Below B a (b.drewN n) := h.trans ⟨rfl, rfl, rfl, Nat.le_refl _, fun _ _ => rfl⟩

set_option maxRecDepth 100000 in
set_option maxHeartbeats 1000000 in
theorem next_is {W : World} {P : Nat} {av : Option Addr} {cap blk off : Nat} {ts : List Tok} {s : St} {r : Nat} (h : ParAt W P av cap blk off ts s r) :
    Calls Try.prog 56 #[.pointer (some ⟨P, 0, none⟩)] W fun e W' => e = .returned (.agg (tcells (nextT ts s)).toArray) ∧ Below W.heap.size W W' := by
  obtain ⟨c0, c1, c2, c3⟩ := h.cell
  have hpl := h.pl
  have hln := h.len
  have hPl := lt_of h.box
  have hAT : Hid (∀ i f, i < ts.length → f < 3 → W.cell? ⟨blk, off + i * 3 + f, none⟩ = (tcells (ts.getD i tk0))[f]?) := h.has
  have hA : Hid (0 < ts.length → av = some ⟨blk, off, none⟩) := h.at_
  have hL : Hid (0 < ts.length → blk < W.heap.size) := fun h0 => (h.lt h0).1
  by_cases he : s.er = 0
  · have e1 : ((s.er : Int) != 0) = false := by simp [he]
    by_cases hp : s.pl = ts.length
    · have e2 : ((s.pl : Int) == (ts.length : Int)) = true := by simp [hp]
      have hN : Hid (nextT ts s = tk0) := by rw [Hid]; unfold nextT; rw [if_pos (.inr hp)]
      rw [hN.out]
      clear h he hp
      generalize ts.length = n at *
      generalize s.pl = p at *
      generalize s.er = er at *
      go_enter Try.func56, Try.ntmps56
      go_wp2
      go_quiet (fail)
      go_wp2
      refine bodyPost_ret (v := .agg #[.int .i64 0, .string ⟨#[]⟩, .int .i64 0]) (by simp [results, Try.results56, go_sem]) rfl ?_
      exact ⟨rfl, (((bel_drewN (bel_new _ _) _).setCell (Nat.le_refl _) _).setCell (Nat.le_refl _) _).setCell (Nat.le_refl _) _⟩
    · have e2 : ((s.pl : Int) == (ts.length : Int)) = false := by rw [beq_eq_false_iff_ne]; omega
      have hN : Hid (nextT ts s = ts.getD s.pl tk0) := by rw [Hid]; unfold nextT; rw [if_neg]; omega
      rw [hN.out]
      have hlt : s.pl < ts.length := by omega
      obtain rfl := hA.out (by omega)
      have x0 := hAT.out s.pl 0 hlt (by decide)
      have x1 := hAT.out s.pl 1 hlt (by decide)
      have x2 := hAT.out s.pl 2 hlt (by decide)
      clear h he hp
      generalize ts.getD s.pl tk0 = x at *
      generalize ts.length = n at *
      generalize s.pl = p at *
      generalize s.er = er at *
      have e3 : ((p : Int) < (n : Int)) = True := eq_true (by omega)
      go_enter Try.func56, Try.ntmps56
      go_wp2
      go_quiet (fail)
      have hb1 : Below W.heap.size W ((W.alloc (.cells #[.int .i64 0, .string ⟨#[]⟩, .int .i64 0] 41)).drewN nq) := bel_drewN (bel_new _ _) _
      have hk1 : ((W.alloc (.cells #[.int .i64 0, .string ⟨#[]⟩, .int .i64 0] 41)).drewN nq).heap[W.heap.size]? = some (.cells #[.int .i64 0, .string ⟨#[]⟩, .int .i64 0] 41 (0, 0)) := World.alloc_heap_new W _
      generalize (W.alloc (.cells #[.int .i64 0, .string ⟨#[]⟩, .int .i64 0] 41)).drewN nq = W1 at *
      have HS : Hid (∀ V, Below W.heap.size W V → (V.cell? ⟨P, 0, none⟩ = some (.slice (some ⟨blk, off, none⟩) n cap) ∧ V.cell? ⟨P, 1, none⟩ = some (.int .i64 (p : Int)) ∧ V.cell? ⟨blk, off + p * 3, none⟩ = some (.int .i64 (x.k : Int)) ∧ V.cell? ⟨blk, off + p * 3 + 1, none⟩ = some (.string (bs x.t)) ∧ V.cell? ⟨blk, off + p * 3 + 2, none⟩ = some (.int .i64 (x.a : Int)))) := fun V hb => by
        have hbl := hL.out (by omega)
        exact ⟨(hb.cell (p := ⟨P, 0, none⟩) hPl).trans c0, (hb.cell (p := ⟨P, 1, none⟩) hPl).trans c1, (hb.cell (p := ⟨blk, off + p * 3, none⟩) hbl).trans x0, (hb.cell (p := ⟨blk, off + p * 3 + 1, none⟩) hbl).trans x1, (hb.cell (p := ⟨blk, off + p * 3 + 2, none⟩) hbl).trans x2⟩
      have hb2 : Below W.heap.size W W1.drew := hb1.trans ⟨rfl, rfl, rfl, Nat.le_refl _, fun _ _ => rfl⟩
      have z0 : W1.cell? ⟨W.heap.size, 0, none⟩ = some (.int .i64 0) := cell_of hk1 0
      have f0 : W1.frozen? ⟨W.heap.size, 0, none⟩ = false := frozen_of hk1 0
      have z1 : W1.cell? ⟨W.heap.size, 1, none⟩ = some (.string ⟨#[]⟩) := cell_of hk1 1
      have f1 : W1.frozen? ⟨W.heap.size, 1, none⟩ = false := frozen_of hk1 1
      have z2 : W1.cell? ⟨W.heap.size, 2, none⟩ = some (.int .i64 0) := cell_of hk1 2
      have f2 : W1.frozen? ⟨W.heap.size, 2, none⟩ = false := frozen_of hk1 2
      obtain ⟨y0, y1, y2, y3, y4⟩ := HS.out W1.drew hb2
      obtain ⟨r0, r1, r2⟩ := res3 hk1 (.int .i64 (x.k : Int)) (.string (bs x.t)) (.int .i64 (x.a : Int))
      clear hb1 hk1
      go_wp2
      go_region
      all_goals go_wp2
      all_goals refine bodyPost_ret (v := .agg #[.int .i64 (x.k : Int), .string (bs x.t), .int .i64 (x.a : Int)]) (by simp [results, Try.results56, go_sem, r0, r1, r2]) rfl ?_
      all_goals exact ⟨rfl, (((hb2.setCell (Nat.le_refl _) _).setCell (Nat.le_refl _) _).setCell (Nat.le_refl _) _)⟩
  · have e1 : ((s.er : Int) != 0) = true := by simp; omega
    have hN : Hid (nextT ts s = tk0) := by rw [Hid]; unfold nextT; rw [if_pos (.inl he)]
    rw [hN.out]
    clear h he
    generalize ts.length = n at *
    generalize s.pl = p at *
    generalize s.er = er at *
    go_enter Try.func56, Try.ntmps56
    go_wp2
    go_quiet (fail)
    go_wp2
    refine bodyPost_ret (v := .agg #[.int .i64 0, .string ⟨#[]⟩, .int .i64 0]) (by simp [results, Try.results56, go_sem]) rfl ?_
    exact ⟨rfl, (((bel_drewN (bel_new _ _) _).setCell (Nat.le_refl _) _).setCell (Nat.le_refl _) _).setCell (Nat.le_refl _) _⟩

end Go.Proofs.Ytgndnodahlabiaa

/- The parser's smallest steps (layer 10): what comes next, and taking it. -/
namespace Go.Proofs.Ytgndnodahlabiaa
open Go.ChangeShapes Go.WideShapes Go.ChangeAt Go.RowKit

set_option maxRecDepth 100000 in
set_option maxHeartbeats 2000000 in
theorem word_is (t : List UInt8) (W : World) : Calls Try.prog 15 #[.string (bs t)] W fun e W' => e = .returned (.bool (wordB t)) ∧ W' = W := by
  have e := bs_toList t
  by_cases h : t ∈ wordsL
  · have hB : wordB t = true := by simp [wordB, h]
    rw [hB]
    clear hB
    unfold wordsL at h
    simp only [List.mem_cons, List.not_mem_nil, or_false] at h
    rcases h with rfl | rfl | rfl | rfl | rfl | rfl | rfl | rfl | rfl | rfl
    all_goals go_enter Try.func15, Try.ntmps15
    all_goals go_wp2
    all_goals go_ret
    all_goals exact ⟨rfl, rfl⟩
  · have hB : wordB t = false := by simp [wordB, h]
    rw [hB]
    clear hB
    have f0 : (t == [102, 117, 110, 99]) = false := by rw [beq_eq_false_iff_ne]; intro e; rw [e] at h; exact h (by decide)
    have f1 : (t == [118, 97, 114]) = false := by rw [beq_eq_false_iff_ne]; intro e; rw [e] at h; exact h (by decide)
    have f2 : (t == [105, 102]) = false := by rw [beq_eq_false_iff_ne]; intro e; rw [e] at h; exact h (by decide)
    have f3 : (t == [101, 108, 115, 101]) = false := by rw [beq_eq_false_iff_ne]; intro e; rw [e] at h; exact h (by decide)
    have f4 : (t == [102, 111, 114]) = false := by rw [beq_eq_false_iff_ne]; intro e; rw [e] at h; exact h (by decide)
    have f5 : (t == [114, 101, 116, 117, 114, 110]) = false := by rw [beq_eq_false_iff_ne]; intro e; rw [e] at h; exact h (by decide)
    have f6 : (t == [112, 114, 105, 110, 116]) = false := by rw [beq_eq_false_iff_ne]; intro e; rw [e] at h; exact h (by decide)
    have f7 : (t == [110, 101, 119]) = false := by rw [beq_eq_false_iff_ne]; intro e; rw [e] at h; exact h (by decide)
    have f8 : (t == [114, 101, 97, 100]) = false := by rw [beq_eq_false_iff_ne]; intro e; rw [e] at h; exact h (by decide)
    have f9 : (t == [105, 110, 116]) = false := by rw [beq_eq_false_iff_ne]; intro e; rw [e] at h; exact h (by decide)
    clear h
    go_enter Try.func15, Try.ntmps15
    go_wp2
    go_ret
    exact ⟨rfl, rfl⟩

theorem field41_0 (a : Int) (b : ByteArray) (c : Int) (w : World) : (Instr.field 41 (.agg #[.int .i64 a, .string b, .int .i64 c]) 0).run Try.prog w = .ok (.int .i64 a) w := by kernel_rfl
theorem field41_1 (a : Int) (b : ByteArray) (c : Int) (w : World) : (Instr.field 41 (.agg #[.int .i64 a, .string b, .int .i64 c]) 1).run Try.prog w = .ok (.string b) w := by kernel_rfl
theorem field41_2 (a : Int) (b : ByteArray) (c : Int) (w : World) : (Instr.field 41 (.agg #[.int .i64 a, .string b, .int .i64 c]) 2).run Try.prog w = .ok (.int .i64 c) w := by kernel_rfl
/-- What next answers, its fields apart. -/
theorem next_at {W : World} {P : Nat} {av : Option Addr} {cap blk off : Nat} {ts : List Tok} {s : St} {r : Nat} (h : ParAt W P av cap blk off ts s r) :
    Calls Try.prog 56 #[.pointer (some ⟨P, 0, none⟩)] W fun e W' => e = .returned (.agg #[.int .i64 ((nextT ts s).k : Int), .string (bs (nextT ts s).t), .int .i64 ((nextT ts s).a : Int)]) ∧ Below W.heap.size W W' := next_is h
theorem tcells_str (x : Tok) : (tcells x).toArray = #[.int .i64 (x.k : Int), .string (bs x.t), .int .i64 (x.a : Int)] := rfl

set_option maxRecDepth 100000 in
theorem isName_is {W : World} {P : Nat} {av : Option Addr} {cap blk off : Nat} {ts : List Tok} {s : St} {r : Nat} (h : ParAt W P av cap blk off ts s r) :
    Calls Try.prog 70 #[.pointer (some ⟨P, 0, none⟩)] W fun e W' => e = .returned (.bool (isNm ts s)) ∧ Below W.heap.size W W' := by
  have HN := next_is h
  unfold isNm
  clear h
  generalize nextT ts s = x at *
  have hw := word_is x.t
  by_cases hk : x.k = 1
  · have e1 : ((x.k : Int) == 1) = true := by simp [hk]
    have e2 : decide (x.k = 1) = true := by simp [hk]
    rw [e2, Bool.true_and]
    clear hk e2
    go_enter Try.func70, Try.ntmps70
    go_wp2_with fail
    refine HN.mono ?_; rintro e W1 ⟨rfl, hb1⟩
    go_wp2_with (go_at_call 15; refine (hw _).mono ?_; rintro e W2 ⟨rfl, rfl⟩)
    go_ret
    exact ⟨rfl, hb1.trans ((bel_new _ _).mono hb1.size)⟩
  · have e1 : ((x.k : Int) == 1) = false := by simp; omega
    have e2 : decide (x.k = 1) = false := by simp [hk]
    rw [e2, Bool.false_and]
    clear hk e2
    go_enter Try.func70, Try.ntmps70
    go_wp2_with fail
    refine HN.mono ?_; rintro e W1 ⟨rfl, hb1⟩
    go_wp2
    go_ret
    exact ⟨rfl, hb1.trans ((bel_new _ _).mono hb1.size)⟩

set_option maxRecDepth 100000 in
theorem isNumber_is {W : World} {P : Nat} {av : Option Addr} {cap blk off : Nat} {ts : List Tok} {s : St} {r : Nat} (h : ParAt W P av cap blk off ts s r) :
    Calls Try.prog 82 #[.pointer (some ⟨P, 0, none⟩)] W fun e W' => e = .returned (.bool (isNr ts s)) ∧ Below W.heap.size W W' := by
  have HN := next_at h
  have hf := field41_0
  unfold isNr
  clear h
  generalize nextT ts s = x at *
  have e1 : ((x.k : Int) == 2) = decide (x.k = 2) := by by_cases hk : x.k = 2 <;> simp [hk] <;> omega
  go_enter Try.func82, Try.ntmps82
  go_wp2_with fail
  refine HN.mono ?_; rintro e W1 ⟨rfl, hb1⟩
  go_wp2
  go_ret
  exact ⟨rfl, hb1⟩

set_option maxRecDepth 100000 in
theorem is_is {W : World} {P : Nat} {av : Option Addr} {cap blk off : Nat} {ts : List Tok} {s : St} {r : Nat} (h : ParAt W P av cap blk off ts s r) (q : List UInt8) :
    Calls Try.prog 75 #[.pointer (some ⟨P, 0, none⟩), .string (bs q)] W fun e W' => e = .returned (.bool (isW ts q s)) ∧ Below W.heap.size W W' := by
  have HN := next_is h
  have hw := word_is q W
  unfold isW kindOf
  clear h
  generalize nextT ts s = x at *
  have eq0 := bs_toList q
  have eq1 := bs_toList x.t
  have e2 : (x.t == q) = decide (x.t = q) := by rw [Bool.eq_iff_iff]; simp
  cases hq : wordB q with
  | true =>
    rw [hq] at hw
    by_cases hk : x.k = 1
    · have e1 : ((x.k : Int) == 1) = true := by simp [hk]
      have e3 : decide (x.k = 1) = true := by simp [hk]
      simp only [if_true, e3, Bool.true_and]
      clear e3 hk hq
      go_enter Try.func75, Try.ntmps75
      go_wp2_with fail
      refine hw.mono ?_; rintro e W1 ⟨rfl, rfl⟩
      go_wp2_with fail
      refine HN.mono ?_; rintro e W1 ⟨rfl, hb1⟩
      go_wp2
      go_ret
      exact ⟨rfl, hb1.trans ((bel_new _ _).mono hb1.size)⟩
    · have e1 : ((x.k : Int) == 1) = false := by simp; omega
      have e3 : decide (x.k = 1) = false := by simp [hk]
      simp only [if_true, e3, Bool.false_and]
      clear e3 hk hq
      go_enter Try.func75, Try.ntmps75
      go_wp2_with fail
      refine hw.mono ?_; rintro e W1 ⟨rfl, rfl⟩
      go_wp2_with fail
      refine HN.mono ?_; rintro e W1 ⟨rfl, hb1⟩
      go_wp2
      go_ret
      exact ⟨rfl, hb1.trans ((bel_new _ _).mono hb1.size)⟩
  | false =>
    rw [hq] at hw
    by_cases hk : x.k = 3
    · have e1 : ((x.k : Int) == 3) = true := by simp [hk]
      have e3 : decide (x.k = 3) = true := by simp [hk]
      simp only [Bool.false_eq_true, if_false, e3, Bool.true_and]
      clear e3 hk hq
      go_enter Try.func75, Try.ntmps75
      go_wp2_with fail
      refine hw.mono ?_; rintro e W1 ⟨rfl, rfl⟩
      go_wp2_with fail
      refine HN.mono ?_; rintro e W1 ⟨rfl, hb1⟩
      go_wp2
      go_ret
      exact ⟨rfl, hb1.trans ((bel_new _ _).mono hb1.size)⟩
    · have e1 : ((x.k : Int) == 3) = false := by simp; omega
      have e3 : decide (x.k = 3) = false := by simp [hk]
      simp only [Bool.false_eq_true, if_false, e3, Bool.false_and]
      clear e3 hk hq
      go_enter Try.func75, Try.ntmps75
      go_wp2_with fail
      refine hw.mono ?_; rintro e W1 ⟨rfl, rfl⟩
      go_wp2_with fail
      refine HN.mono ?_; rintro e W1 ⟨rfl, hb1⟩
      go_wp2
      go_ret
      exact ⟨rfl, hb1.trans ((bel_new _ _).mono hb1.size)⟩

end Go.Proofs.Ytgndnodahlabiaa

/- The parser's smallest steps (layer 10): failing, taking, wanting, names and numbers, a node's beginning. -/
namespace Go.Proofs.Ytgndnodahlabiaa
open Go.ChangeShapes Go.WideShapes Go.ChangeAt Go.RowKit

theorem hidW {p : Prop} (h : p) : Hid p := h
theorem ParAt.fails {W : World} {P : Nat} {av : Option Addr} {cap blk off : Nat} {ts : List Tok} {s : St} {r : Nat} (h : ParAt W P av cap blk off ts s r) (he : s.er = 0) (e : Nat) (hm : e ≤ 100) :
    ParAt (W.setCell ⟨P, 3, none⟩ (.int .i64 (e : Int))) P av cap blk off ts (failS e s) r := by
  have h1 := h.turns (Q := fun b => b = P ∧ False) (Turns.refl _ W) (fun x => x.2) (fun b _ _ x => x.2)
  have hs : failS e s = ⟨s.pl, e⟩ := if_pos he
  rw [hs]
  exact ⟨heap_set_same' h.box 3 _, h.at_, fun h0 => ⟨by simpa [World.setCell] using (h.lt h0).1, (h.lt h0).2⟩, fun i f hi hf => by
    have hl := h.lt (by omega)
    have := h.has i f hi hf
    rw [← this]
    simp only [World.cell?]
    rw [Below.heap_setCell W ⟨P, 3, none⟩ _ blk hl.2], h.pl, h.len, hm, h.dp, h.sh⟩
theorem ParAt.advs {W : World} {P : Nat} {av : Option Addr} {cap blk off : Nat} {ts : List Tok} {s : St} {r : Nat} (h : ParAt W P av cap blk off ts s r) (hp : s.pl < ts.length) :
    ParAt (W.setCell ⟨P, 1, none⟩ (.int .i64 ((s.pl + 1 : Nat) : Int))) P av cap blk off ts (adv s) r := by
  exact ⟨heap_set_same' h.box 1 _, h.at_, fun h0 => ⟨by simpa [World.setCell] using (h.lt h0).1, (h.lt h0).2⟩, fun i f hi hf => by
    have hl := h.lt (by omega)
    have := h.has i f hi hf
    rw [← this]
    simp only [World.cell?]
    rw [Below.heap_setCell W ⟨P, 1, none⟩ _ blk hl.2], hp, h.len, h.er, h.dp, h.sh⟩
theorem turns_p (P : Nat) (o : Nat) (v : Value) (W : World) : Turns (fun b => b = P) W (W.setCell ⟨P, o, none⟩ v) := Turns.setCell W _ v rfl
theorem turns_b {Q : Nat → Prop} {W W' : World} (h : Below W.heap.size W W') : Turns Q W W' := ⟨h.os, h.tape, h.output, h.size, fun b hb _ => h.block b hb⟩

set_option maxRecDepth 100000 in
theorem fail_is {W : World} {P : Nat} {av : Option Addr} {cap blk off : Nat} {ts : List Tok} {s : St} {r : Nat} (h : ParAt W P av cap blk off ts s r) (e : Nat) (hm : e ≤ 100) :
    Calls Try.prog 69 #[.pointer (some ⟨P, 0, none⟩), .int .i64 (e : Int)] W fun x W' => x = .returned (.tuple #[]) ∧ ParAt W' P av cap blk off ts (failS e s) r ∧ Turns (fun b => b = P) W W' := by
  obtain ⟨c0, c1, c2, c3⟩ := h.cell
  have f3 := frozen_of h.box 3
  by_cases he : s.er = 0
  · have e1 : ((s.er : Int) == 0) = true := by simp [he]
    have hP := hidW (h.fails he e hm)
    generalize failS e s = s' at *
    clear h he
    generalize s.er = er at *
    go_enter Try.func69, Try.ntmps69
    go_wp2
    go_end0
    exact ⟨rfl, hP.out, turns_p _ _ _ _⟩
  · have e1 : ((s.er : Int) == 0) = false := by simp [he]
    have hs : failS e s = s := if_neg he
    rw [hs]
    have hP := hidW h
    clear h hs he
    generalize s.er = er at *
    go_enter Try.func69, Try.ntmps69
    go_wp2
    go_end0
    exact ⟨rfl, hP.out, Turns.refl _ _⟩

set_option maxRecDepth 100000 in
theorem take_is {W : World} {P : Nat} {av : Option Addr} {cap blk off : Nat} {ts : List Tok} {s : St} {r : Nat} (h : ParAt W P av cap blk off ts s r) (q : List UInt8) :
    Calls Try.prog 68 #[.pointer (some ⟨P, 0, none⟩), .string (bs q)] W fun e W' => e = .returned (.bool (isW ts q s)) ∧ ParAt W' P av cap blk off ts (takeS ts q s) r ∧ Turns (fun b => b = P) W W' := by
  have HI := is_is h q
  unfold takeS
  cases hq : isW ts q s with
  | true =>
    rw [hq] at HI
    obtain ⟨_, hp⟩ := isW_at hq
    have hH := hidW h
    have hpl := h.pl
    have hlen := h.len
    clear hq h
    go_enter Try.func68, Try.ntmps68
    go_wp2_with fail
    refine HI.mono ?_; rintro e W1 ⟨rfl, hb1⟩
    have h1 := hH.out.below hb1
    have c1 := h1.cell.2.1
    have f1 := frozen_of h1.box 1
    have hA := hidW (h1.advs (by omega))
    have hb := hidW hb1
    clear h1 hb1 HI hp
    generalize s.pl = p at *
    go_wp2
    go_ret
    exact ⟨rfl, hA.out, (turns_b hb.out).trans (turns_p _ _ _ _)⟩
  | false =>
    rw [hq] at HI
    have hH := hidW h
    clear hq h
    go_enter Try.func68, Try.ntmps68
    go_wp2_with fail
    refine HI.mono ?_; rintro e W1 ⟨rfl, hb1⟩
    go_wp2
    go_ret
    exact ⟨rfl, hH.out.below hb1, turns_b hb1⟩


theorem nextT_sh {W : World} {P : Nat} {av : Option Addr} {cap blk off : Nat} {ts : List Tok} {s : St} {r : Nat} (h : ParAt W P av cap blk off ts s r) : (nextT ts s).t.length ≤ 100000000 := by
  unfold nextT
  split
  · simp
  · by_cases hl : s.pl < ts.length
    · rw [List.getD_eq_getElem?_getD, List.getElem?_eq_getElem hl]; exact h.sh _ (List.getElem_mem hl)
    · rw [List.getD_eq_getElem?_getD, List.getElem?_eq_none (by omega)]; simp

set_option maxRecDepth 100000 in
theorem want_is {W : World} {P : Nat} {av : Option Addr} {cap blk off : Nat} {ts : List Tok} {s : St} {r : Nat} (h : ParAt W P av cap blk off ts s r) (q : List UInt8) :
    Calls Try.prog 57 #[.pointer (some ⟨P, 0, none⟩), .string (bs q)] W fun e W' => e = .returned (.tuple #[]) ∧ ParAt W' P av cap blk off ts (wantS ts q s) r ∧ Turns (fun b => b = P) W W' := by
  have HT := take_is h q
  unfold wantS
  unfold takeS at HT
  clear h
  cases hq : isW ts q s with
  | true =>
    rw [hq, if_pos rfl] at HT
    clear hq
    rw [if_pos rfl]
    generalize adv s = s1 at *
    go_enter Try.func57, Try.ntmps57
    go_wp2_with fail
    refine HT.mono ?_; rintro e W1 ⟨rfl, h1, t1⟩
    go_wp2
    go_end0
    exact ⟨rfl, h1, t1⟩
  | false =>
    rw [hq, if_neg (by simp)] at HT
    clear hq
    rw [if_neg (by simp)]
    go_enter Try.func57, Try.ntmps57
    go_wp2_with fail
    refine HT.mono ?_; rintro e W1 ⟨rfl, h1, t1⟩
    have HF := fail_is h1 2 (by decide)
    clear h1 HT
    go_wp2_with fail
    refine HF.mono ?_; rintro e W2 ⟨rfl, h2, t2⟩
    go_wp2
    go_end0
    exact ⟨rfl, h2, t1.trans t2⟩

set_option maxRecDepth 100000 in
theorem text_is {W : World} {P : Nat} {av : Option Addr} {cap blk off : Nat} {ts : List Tok} {s : St} {r : Nat} (h : ParAt W P av cap blk off ts s r) (hp : s.er = 0 ∧ s.pl ≠ ts.length) :
    Calls Try.prog 71 #[.pointer (some ⟨P, 0, none⟩)] W fun e W' => e = .returned (.string (bs (nextT ts s).t)) ∧ ParAt W' P av cap blk off ts (adv s) r ∧ Turns (fun b => b = P) W W' := by
  have HN := next_at h
  have hf := field41_1
  have hsh := nextT_sh h
  have hpl := h.pl
  have hlen := h.len
  obtain ⟨_, hp⟩ := hp
  have hH := hidW h
  clear h
  generalize nextT ts s = x at *
  go_enter Try.func71, Try.ntmps71
  go_wp2_with fail
  refine HN.mono ?_; rintro e W1 ⟨rfl, hb1⟩
  have HC := clone_s (bs x.t) (by rw [bs_size]; exact hsh) W1
  go_wp2_with fail
  refine HC.mono ?_; rintro e W2 ⟨rfl, hb2⟩
  have hb3 := hidW (bel_two hb1 hb2)
  have h1 := hH.out.below hb3.out
  have c1 := h1.cell.2.1
  have f1 := frozen_of h1.box 1
  have hA := hidW (h1.advs (by omega))
  clear h1 hb1 hb2 HN HC hp hsh
  generalize s.pl = p at *
  go_wp2
  go_ret
  exact ⟨rfl, hA.out, (turns_b hb3.out).trans (turns_p _ _ _ _)⟩

set_option maxRecDepth 100000 in
theorem name_is {W : World} {P : Nat} {av : Option Addr} {cap blk off : Nat} {ts : List Tok} {s : St} {r : Nat} (h : ParAt W P av cap blk off ts s r) :
    Calls Try.prog 58 #[.pointer (some ⟨P, 0, none⟩)] W fun e W' => e = .returned (.string (bs (nameS ts s).1)) ∧ ParAt W' P av cap blk off ts (nameS ts s).2 r ∧ Turns (fun b => b = P) W W' := by
  have HI := isName_is h
  unfold nameS
  cases hq : isNm ts s with
  | true =>
    rw [hq] at HI
    rw [if_pos rfl]
    have hp := isNm_at hq
    have hH := hidW h
    clear hq h
    go_enter Try.func58, Try.ntmps58
    go_wp2_with fail
    refine HI.mono ?_; rintro e W1 ⟨rfl, hb1⟩
    have HT := text_is (hH.out.below hb1) hp
    clear hp
    go_wp2_with fail
    refine HT.mono ?_; rintro e W2 ⟨rfl, h2, t2⟩
    go_wp2
    go_ret
    exact ⟨rfl, h2, (turns_b hb1).trans t2⟩
  | false =>
    rw [hq] at HI
    rw [if_neg (by simp)]
    have hH := hidW h
    clear hq h
    go_enter Try.func58, Try.ntmps58
    go_wp2_with fail
    refine HI.mono ?_; rintro e W1 ⟨rfl, hb1⟩
    have HF := fail_is (hH.out.below hb1) 2 (by decide)
    go_wp2_with fail
    refine HF.mono ?_; rintro e W2 ⟨rfl, h2, t2⟩
    go_wp2
    go_ret
    exact ⟨rfl, h2, (turns_b hb1).trans t2⟩
set_option maxRecDepth 100000 in
theorem number_is {W : World} {P : Nat} {av : Option Addr} {cap blk off : Nat} {ts : List Tok} {s : St} {r : Nat} (h : ParAt W P av cap blk off ts s r) :
    Calls Try.prog 78 #[.pointer (some ⟨P, 0, none⟩)] W fun e W' => e = .returned (.string (bs (numS ts s).1)) ∧ ParAt W' P av cap blk off ts (numS ts s).2 r ∧ Turns (fun b => b = P) W W' := by
  have HI := isNumber_is h
  unfold numS
  cases hq : isNr ts s with
  | true =>
    rw [hq] at HI
    rw [if_pos rfl]
    have hp := isNr_at hq
    have hH := hidW h
    clear hq h
    go_enter Try.func78, Try.ntmps78
    go_wp2_with fail
    refine HI.mono ?_; rintro e W1 ⟨rfl, hb1⟩
    have HT := text_is (hH.out.below hb1) hp
    clear hp
    go_wp2_with fail
    refine HT.mono ?_; rintro e W2 ⟨rfl, h2, t2⟩
    go_wp2
    go_ret
    exact ⟨rfl, h2, (turns_b hb1).trans t2⟩
  | false =>
    rw [hq] at HI
    rw [if_neg (by simp)]
    have hH := hidW h
    clear hq h
    go_enter Try.func78, Try.ntmps78
    go_wp2_with fail
    refine HI.mono ?_; rintro e W1 ⟨rfl, hb1⟩
    have HF := fail_is (hH.out.below hb1) 2 (by decide)
    go_wp2_with fail
    refine HF.mono ?_; rintro e W2 ⟨rfl, h2, t2⟩
    go_wp2
    go_ret
    exact ⟨rfl, h2, (turns_b hb1).trans t2⟩

theorem res4 {W : World} {b : Nat} {T : TypeId} {a0 a1 a2 a3 : Value} (h : W.heap[b]? = some (.cells #[a0, a1, a2, a3] T (0, 0))) (v0 v1 v2 v3 : Value) :
    ((((W.setCell ⟨b, 0, none⟩ v0).setCell ⟨b, 1, none⟩ v1).setCell ⟨b, 2, none⟩ v2).setCell ⟨b, 3, none⟩ v3).cell? ⟨b, 0, none⟩ = some v0 ∧ ((((W.setCell ⟨b, 0, none⟩ v0).setCell ⟨b, 1, none⟩ v1).setCell ⟨b, 2, none⟩ v2).setCell ⟨b, 3, none⟩ v3).cell? ⟨b, 1, none⟩ = some v1 ∧ ((((W.setCell ⟨b, 0, none⟩ v0).setCell ⟨b, 1, none⟩ v1).setCell ⟨b, 2, none⟩ v2).setCell ⟨b, 3, none⟩ v3).cell? ⟨b, 2, none⟩ = some v2 ∧ ((((W.setCell ⟨b, 0, none⟩ v0).setCell ⟨b, 1, none⟩ v1).setCell ⟨b, 2, none⟩ v2).setCell ⟨b, 3, none⟩ v3).cell? ⟨b, 3, none⟩ = some v3 :=
  have h4 := heap_set_same' (heap_set_same' (heap_set_same' (heap_set_same' h 0 v0) 1 v1) 2 v2) 3 v3
  ⟨cell_of h4 0, cell_of h4 1, cell_of h4 2, cell_of h4 3⟩

set_option maxRecDepth 100000 in
theorem node_is {W : World} {P : Nat} {av : Option Addr} {cap blk off : Nat} {ts : List Tok} {s : St} {r : Nat} (h : ParAt W P av cap blk off ts s r) (k : Int) :
    Calls Try.prog 39 #[.pointer (some ⟨P, 0, none⟩), .int .i64 k] W fun e W' => e = .returned (leafV k [] ((nextT ts s).a : Int)).val ∧ Below W.heap.size W W' := by
  have hb0 := bel_new W (.cells #[.int .i64 0, .string ⟨#[]⟩, .int .i64 0, .slice none 0 0] 24)
  have HN := next_at (h.below hb0)
  have hk0 : (W.alloc (.cells #[.int .i64 0, .string ⟨#[]⟩, .int .i64 0, .slice none 0 0] 24)).heap[W.heap.size]? = _ := World.alloc_heap_new W _
  have hf := field41_2
  clear h
  generalize nextT ts s = x at *
  go_enter Try.func39, Try.ntmps39
  go_wp2_with fail
  refine HN.mono ?_; rintro e W1 ⟨rfl, hb1⟩
  have hk1 : W1.heap[W.heap.size]? = some (.cells #[.int .i64 0, .string ⟨#[]⟩, .int .i64 0, .slice none 0 0] 24 (0, 0)) := (hb1.block W.heap.size (by simp)).trans hk0
  have hb2 : Below W.heap.size W W1 := hb0.trans (hb1.mono (by simp))
  have z0 := cell_of hk1 0
  have z1 := cell_of hk1 1
  have z2 := cell_of hk1 2
  have z3 := cell_of hk1 3
  have f0 := frozen_of hk1 0
  have f1 := frozen_of hk1 1
  have f2 := frozen_of hk1 2
  have f3 := frozen_of hk1 3
  simp only [List.getElem?_toArray, List.getElem?_cons_zero, List.getElem?_cons_succ] at z0 z1 z2 z3
  obtain ⟨r0, r1, r2, r3⟩ := res4 hk1 (.int .i64 k) (.string ⟨#[]⟩) (.int .i64 (x.a : Int)) (.slice none 0 0)
  clear hk0 hk1 hb0 hb1 HN
  go_wp2
  refine bodyPost_ret (v := .agg #[.int .i64 k, .string ⟨#[]⟩, .int .i64 (x.a : Int), .slice none 0 0]) (by simp [results, Try.results39, go_sem, r0, r1, r2, r3]) rfl ?_
  exact ⟨rfl, (((hb2.setCell (Nat.le_refl _) _).setCell (Nat.le_refl _) _).setCell (Nat.le_refl _) _).setCell (Nat.le_refl _) _⟩

end Go.Proofs.Ytgndnodahlabiaa

/- One depth more (layer 10): the contract of the parser's deeper, of a function value that has one. -/
namespace Go.Proofs.Ytgndnodahlabiaa
open Go.ChangeShapes Go.WideShapes Go.ChangeAt Go.RowKit

/-- What a method that answers a tree does. -/
def PaAns (P : Nat) (av : Option Addr) (cap blk off : Nat) (ts : List Tok) (r : Nat) (w : Pa) (s : St) (W : World) (e : Ending) (W' : World) : Prop :=
  ∃ n : Nv, e = .returned n.val ∧ Lies W.heap.size W' n ∧ n.nd = (w s).1 ∧ ParAt W' P av cap blk off ts (w s).2 r ∧ Turns (fun b => b = P) W W'

theorem ParAt.depth {W : World} {P : Nat} {av : Option Addr} {cap blk off : Nat} {ts : List Tok} {s : St} {r : Nat} (h : ParAt W P av cap blk off ts s r) (r' : Nat) (hr : r' ≤ 100) (v : Int) (hv : v = 100 - (r' : Int)) :
    ParAt (W.setCell ⟨P, 2, none⟩ (.int .i64 v)) P av cap blk off ts s r' := by
  subst hv
  exact ⟨heap_set_same' h.box 2 _, h.at_, fun h0 => ⟨by simpa [World.setCell] using (h.lt h0).1, (h.lt h0).2⟩, fun i f hi hf => by
    have hl := h.lt (by omega)
    have := h.has i f hi hf
    rw [← this]
    simp only [World.cell?]
    rw [Below.heap_setCell W ⟨P, 2, none⟩ _ blk hl.2], h.pl, h.len, h.er, hr, h.sh⟩

theorem ParAt.turns2 {W W' : World} {Q : Nat → Prop} {P : Nat} {av : Option Addr} {cap blk off : Nat} {ts : List Tok} {s : St} {r : Nat} (h : ParAt W P av cap blk off ts s r) (ht : Turns Q W W') (h1 : ¬ Q P) (h2 : 0 < ts.length → ¬ Q blk) : ParAt W' P av cap blk off ts s r :=
  ⟨(ht.block P (lt_of h.box) h1).trans h.box, h.at_, fun h0 => ⟨Nat.lt_of_lt_of_le (h.lt h0).1 ht.size, (h.lt h0).2⟩, fun i f hi hf => by
    have hl := h.lt (by omega)
    have := h.has i f hi hf
    simp only [World.cell?] at this ⊢
    rw [ht.block blk hl.1 (h2 (by omega))]; exact this, h.pl, h.len, h.er, h.dp, h.sh⟩
theorem turns_own {Q : Nat → Prop} {W W' : World} (h : Turns Q W W') (b o : Nat) (v : Value) (hb : W.heap.size ≤ b) : Turns Q W (W'.setCell ⟨b, o, none⟩ v) := by
  have k := turns_p b o v W'
  exact ⟨k.os.trans h.os, k.tape.trans h.tape, k.output.trans h.output, Nat.le_trans h.size k.size, fun c hc hq => (k.block c (Nat.lt_of_lt_of_le hc h.size) (by omega)).trans (h.block c hc hq)⟩
/-- A tree is put into a box of one's own. -/
theorem put4 {W W' : World} {P b : Nat} {v0 v1 v2 v3 : Value} (h : Turns (fun c => c = P) W W') (hb : W.heap.size ≤ b) :
    Turns (fun c => c = P) W ((((W'.setCell ⟨b, 0, none⟩ v0).setCell ⟨b, 1, none⟩ v1).setCell ⟨b, 2, none⟩ v2).setCell ⟨b, 3, none⟩ v3) ∧ Turns (fun c => c = b) W' ((((W'.setCell ⟨b, 0, none⟩ v0).setCell ⟨b, 1, none⟩ v1).setCell ⟨b, 2, none⟩ v2).setCell ⟨b, 3, none⟩ v3) :=
  ⟨turns_own (turns_own (turns_own (turns_own h b 0 v0 hb) b 1 v1 hb) b 2 v2 hb) b 3 v3 hb, (((turns_p b 0 v0 W').trans (turns_p b 1 v1 _)).trans (turns_p b 2 v2 _)).trans (turns_p b 3 v3 _)⟩

set_option maxRecDepth 100000 in
set_option maxHeartbeats 1000000 in
theorem deeper_is {W : World} {P : Nat} {av : Option Addr} {cap blk off : Nat} {ts : List Tok} {s : St} {r : Nat} (h : ParAt W P av cap blk off ts s (r + 1)) (w : Pa) (K : FuncId) (ma cl : Array Value)
    (hcf : ∀ V : World, (callFunc K (ma ++ cl)).run Try.prog V = .ok (.enter K (ma ++ cl)) V)
    (hd : ∀ V, ParAt V P av cap blk off ts s r → Turns (fun b => b = P) W V → Calls Try.prog K (ma ++ cl) V (PaAns P av cap blk off ts r w s V)) :
    Calls Try.prog 73 #[.pointer (some ⟨P, 0, none⟩), .func (.func K) ma cl] W (PaAns P av cap blk off ts (r + 1) w s W) := by
  obtain ⟨c0, c1, c2, c3⟩ := h.cell
  have hdp := h.dp
  have e1 : ((100 - ((r + 1 : Nat) : Int)) == 100) = false := by rw [beq_eq_false_iff_ne]; omega
  have f2 := frozen_of h.box 2
  have hlt := lt_of h.box
  obtain ⟨d, hde⟩ : ∃ d : Int, d = 100 - ((r + 1 : Nat) : Int) := ⟨_, rfl⟩
  rw [← hde] at e1 c2
  have h1 := h.depth r (by omega) (d + 1) (by omega)
  have hb1 := bel_new (W.setCell ⟨P, 2, none⟩ (.int .i64 (d + 1))) (.cells #[.int .i64 0, .string ⟨#[]⟩, .int .i64 0, .slice none 0 0] 24)
  have h2 := h1.below hb1
  have t2 : Turns (fun b => b = P) W ((W.setCell ⟨P, 2, none⟩ (.int .i64 (d + 1))).alloc (.cells #[.int .i64 0, .string ⟨#[]⟩, .int .i64 0, .slice none 0 0] 24)) := (turns_p P 2 _ W).trans (Turns.alloc _ _ _)
  have hsz : (W.setCell ⟨P, 2, none⟩ (.int .i64 (d + 1))).heap.size = W.heap.size := by simp [World.setCell]
  have hk2 : ((W.setCell ⟨P, 2, none⟩ (.int .i64 (d + 1))).alloc (.cells #[.int .i64 0, .string ⟨#[]⟩, .int .i64 0, .slice none 0 0] 24)).heap[W.heap.size]? = some (.cells #[.int .i64 0, .string ⟨#[]⟩, .int .i64 0, .slice none 0 0] 24 (0, 0)) := by
    have := World.alloc_heap_new (W.setCell ⟨P, 2, none⟩ (.int .i64 (d + 1))) (.cells #[.int .i64 0, .string ⟨#[]⟩, .int .i64 0, .slice none 0 0] 24)
    rw [hsz] at this; exact this
  have hD := hidW (hd _ h2 t2)
  have hH := hidW h
  have hdr : d + 1 ≤ 100 ∧ 0 ≤ d ∧ r + 1 ≤ 100 := by omega
  have hDE := hidW hde
  clear h h1 h2 hb1 hd hde hdp
  go_enter Try.func73, Try.ntmps73
  go_wp2_with fail
  refine hD.out.mono ?_
  clear hD
  rintro e W3 ⟨⟨k, tx, a, nav, ncap, nblk, noff, ks⟩, rfl, hl3, hn3, h3, t3⟩
  have hk3 : W3.heap[W.heap.size]? = some (.cells #[.int .i64 0, .string ⟨#[]⟩, .int .i64 0, .slice none 0 0] 24 (0, 0)) := (t3.block W.heap.size (by simp [World.setCell]) (by omega)).trans hk2
  have hb4 := bel_new W3 (.cells #[.int .i64 k, .string (bs tx), .int .i64 a, .slice nav ks.length ncap] 24)
  have h4 := h3.below hb4
  have hk4 := (hb4.block W.heap.size (lt_of hk3)).trans hk3
  have hk5 := World.alloc_heap_new W3 (.cells #[.int .i64 k, .string (bs tx), .int .i64 a, .slice nav ks.length ncap] 24)
  have HL := hidW (hl3.turns (Turns.of_below hb4) (fun b _ h => by omega))
  have HT := hidW ((t2.trans t3).trans (turns_b hb4))
  have c2' := h4.cell.2.2.1
  have f2' := frozen_of h4.box 2
  rw [show 100 - (r : Int) = d + 1 by have := hDE.out; omega] at c2'
  have hu := hidW (h4.depth (r + 1) (by omega) d hDE.out)
  have z0 := cell_of hk4 0
  have z1 := cell_of hk4 1
  have z2 := cell_of hk4 2
  have z3 := cell_of hk4 3
  have f0 := frozen_of hk4 0
  have f1 := frozen_of hk4 1
  have f2 := frozen_of hk4 2
  have f3 := frozen_of hk4 3
  simp only [List.getElem?_toArray, List.getElem?_cons_zero, List.getElem?_cons_succ] at z0 z1 z2 z3
  have hlt3 := lt_of hk3
  have hne : ¬ (W.heap.size = P) := by omega
  have HK4 := hidW hk4
  clear h3 hl3 t3 t2 hk2 hb4 h4 hk3 hk5 hk4
  go_wp2
  have hk6 := ((turns_p P 2 (.int .i64 d) _).block W.heap.size (lt_of HK4.out) hne).trans HK4.out
  obtain ⟨r0, r1, r2, r3⟩ := res4 hk6 (.int .i64 k) (.string (bs tx)) (.int .i64 a) (.slice nav ks.length ncap)
  refine bodyPost_ret (v := .agg #[.int .i64 k, .string (bs tx), .int .i64 a, .slice nav ks.length ncap]) (by simp [results, Try.results73, go_sem, r0, r1, r2, r3]) rfl ?_
  have hT6 := HT.out.trans (turns_p P 2 (.int .i64 d) _)
  obtain ⟨q1, q2⟩ := put4 (b := W.heap.size) (v0 := .int .i64 k) (v1 := .string (bs tx)) (v2 := .int .i64 a) (v3 := .slice nav ks.length ncap) hT6 (Nat.le_refl _)
  have hV : W.heap.size + 1 = ((W.setCell ⟨P, 2, none⟩ (.int .i64 (d + 1))).alloc (.cells #[.int .i64 0, .string ⟨#[]⟩, .int .i64 0, .slice none 0 0] 24)).heap.size := by rw [World.size_alloc, hsz]
  refine ⟨.mk k tx a nav ncap nblk noff ks, rfl, ?_, hn3, ?_, q1⟩
  · refine Lies.mono (Lies.turns (Q := fun c => c = P ∨ c = W.heap.size) HL.out ((turns_p P 2 (.int .i64 d) _).mono (fun _ h => .inl h) |>.trans (q2.mono (fun _ h => .inr h))) (fun c hc _ => ?_)) (by omega)
    rw [← hV] at hc
    omega
  · exact hu.out.turns2 q2 (by omega) (fun h0 => by have := (hH.out.lt h0).1; omega)

theorem lies_nd0 (base : Nat) (W : World) : Lies base W (leafV 0 [] 0) := lies_leaf base W 0 [] 0

set_option maxRecDepth 100000 in
set_option maxHeartbeats 1000000 in
theorem deeper_no {W : World} {P : Nat} {av : Option Addr} {cap blk off : Nat} {ts : List Tok} {s : St} (h : ParAt W P av cap blk off ts s 0) (g : Value) :
    Calls Try.prog 73 #[.pointer (some ⟨P, 0, none⟩), g] W (PaAns P av cap blk off ts 0 tooDeep s W) := by
  obtain ⟨c0, c1, c2, c3⟩ := h.cell
  have hb0 := bel_new W (.cells #[.int .i64 0, .string ⟨#[]⟩, .int .i64 0, .slice none 0 0] 24)
  have HF := fail_is (h.below hb0) 5 (by decide)
  have hk0 : (W.alloc (.cells #[.int .i64 0, .string ⟨#[]⟩, .int .i64 0, .slice none 0 0] 24)).heap[W.heap.size]? = some (.cells #[.int .i64 0, .string ⟨#[]⟩, .int .i64 0, .slice none 0 0] 24 (0, 0)) := World.alloc_heap_new W _
  have hlt := lt_of h.box
  have hblk := h.lt
  have ht0 : Turns (fun b => b = P) W (W.alloc (.cells #[.int .i64 0, .string ⟨#[]⟩, .int .i64 0, .slice none 0 0] 24)) := Turns.alloc _ _ _
  have c2' := (h.below hb0).cell.2.2.1
  clear h
  go_enter Try.func73, Try.ntmps73
  go_wp2_with fail
  refine HF.mono ?_; rintro e W1 ⟨rfl, h1, t1⟩
  have hk1 := (t1.block W.heap.size (by simp) (by omega)).trans hk0
  have z0 := cell_of hk1 0
  have z1 := cell_of hk1 1
  have z2 := cell_of hk1 2
  have z3 := cell_of hk1 3
  have f0 := frozen_of hk1 0
  have f1 := frozen_of hk1 1
  have f2 := frozen_of hk1 2
  have f3 := frozen_of hk1 3
  simp only [List.getElem?_toArray, List.getElem?_cons_zero, List.getElem?_cons_succ] at z0 z1 z2 z3
  obtain ⟨r0, r1, r2, r3⟩ := res4 hk1 (.int .i64 0) (.string ⟨#[]⟩) (.int .i64 0) (.slice none 0 0)
  have hP := hidW h1
  have hT := hidW (ht0.trans t1)
  clear hk0 hk1 h1 t1 HF hb0 ht0
  go_wp2
  refine bodyPost_ret (v := .agg #[.int .i64 0, .string ⟨#[]⟩, .int .i64 0, .slice none 0 0]) (by simp [results, Try.results73, go_sem, r0, r1, r2, r3]) rfl ?_
  obtain ⟨q1, q2⟩ := put4 (b := W.heap.size) (v0 := .int .i64 0) (v1 := .string ⟨#[]⟩) (v2 := .int .i64 0) (v3 := .slice none 0 0) hT.out (Nat.le_refl _)
  exact ⟨leafV 0 [] 0, rfl, lies_nd0 _ _, rfl, hP.out.turns2 q2 (by omega) (fun h0 => by have := (hblk h0).1; omega), q1⟩

/-- What goes one deeper. -/
structure Deep (P : Nat) (av : Option Addr) (cap blk off : Nat) (ts : List Tok) (r : Nat) (v : Lv) : Prop where
  t : ∀ s W, ParAt W P av cap blk off ts s r → Calls Try.prog 73 #[.pointer (some ⟨P, 0, none⟩), .func (.func 74) #[.pointer (some ⟨P, 0, none⟩)] #[]] W (PaAns P av cap blk off ts r v.t s W)
  e : ∀ s W, ParAt W P av cap blk off ts s r → Calls Try.prog 73 #[.pointer (some ⟨P, 0, none⟩), .func (.func 80) #[.pointer (some ⟨P, 0, none⟩)] #[]] W (PaAns P av cap blk off ts r v.e s W)
  o : ∀ s W, ParAt W P av cap blk off ts s r → Calls Try.prog 73 #[.pointer (some ⟨P, 0, none⟩), .func (.func 90) #[.pointer (some ⟨P, 0, none⟩)] #[]] W (PaAns P av cap blk off ts r v.o s W)
  s : ∀ s W, ParAt W P av cap blk off ts s r → Calls Try.prog 73 #[.pointer (some ⟨P, 0, none⟩), .func (.func 76) #[.pointer (some ⟨P, 0, none⟩)] #[]] W (PaAns P av cap blk off ts r v.s s W)
theorem deep_zero (P : Nat) (av : Option Addr) (cap blk off : Nat) (ts : List Tok) : Deep P av cap blk off ts 0 (lv ts 0) :=
  ⟨fun _ _ h => deeper_no h _, fun _ _ h => deeper_no h _, fun _ _ h => deeper_no h _, fun _ _ h => deeper_no h _⟩
/-- The methods themselves, at a depth. -/
structure Bodies (P : Nat) (av : Option Addr) (cap blk off : Nat) (ts : List Tok) (r : Nat) (v : Lv) : Prop where
  t : ∀ s W, ParAt W P av cap blk off ts s r → Calls Try.prog 74 #[.pointer (some ⟨P, 0, none⟩)] W (PaAns P av cap blk off ts r v.t s W)
  e : ∀ s W, ParAt W P av cap blk off ts s r → Calls Try.prog 80 #[.pointer (some ⟨P, 0, none⟩)] W (PaAns P av cap blk off ts r v.e s W)
  o : ∀ s W, ParAt W P av cap blk off ts s r → Calls Try.prog 90 #[.pointer (some ⟨P, 0, none⟩)] W (PaAns P av cap blk off ts r v.o s W)
  s : ∀ s W, ParAt W P av cap blk off ts s r → Calls Try.prog 76 #[.pointer (some ⟨P, 0, none⟩)] W (PaAns P av cap blk off ts r v.s s W)
theorem enter74 (p : Value) (V : World) : (callFunc 74 (#[p] ++ #[])).run Try.prog V = .ok (.enter 74 (#[p] ++ #[])) V := by go_simp
theorem enter80 (p : Value) (V : World) : (callFunc 80 (#[p] ++ #[])).run Try.prog V = .ok (.enter 80 (#[p] ++ #[])) V := by go_simp
theorem enter90 (p : Value) (V : World) : (callFunc 90 (#[p] ++ #[])).run Try.prog V = .ok (.enter 90 (#[p] ++ #[])) V := by go_simp
theorem enter76 (p : Value) (V : World) : (callFunc 76 (#[p] ++ #[])).run Try.prog V = .ok (.enter 76 (#[p] ++ #[])) V := by go_simp
theorem deep_next {P : Nat} {av : Option Addr} {cap blk off : Nat} {ts : List Tok} {r : Nat} {v : Lv} (h : Bodies P av cap blk off ts r v) : Deep P av cap blk off ts (r + 1) v :=
  ⟨fun s _ hp => deeper_is hp v.t 74 _ _ (enter74 _) (fun V hV _ => h.t s V hV), fun s _ hp => deeper_is hp v.e 80 _ _ (enter80 _) (fun V hV _ => h.e s V hV),
   fun s _ hp => deeper_is hp v.o 90 _ _ (enter90 _) (fun V hV _ => h.o s V hV), fun s _ hp => deeper_is hp v.s 76 _ _ (enter76 _) (fun V hV _ => h.s s V hV)⟩
/-- All depths, from one to the next. -/
theorem deep_all {P : Nat} {av : Option Addr} {cap blk off : Nat} {ts : List Tok} (step : ∀ r, r ≤ 99 → Deep P av cap blk off ts r (lv ts r) → Bodies P av cap blk off ts r (lv ts (r + 1))) : ∀ r, r ≤ 100 → Deep P av cap blk off ts r (lv ts r)
  | 0, _ => deep_zero P av cap blk off ts
  | r + 1, h => deep_next (step r (by omega) (deep_all step r (by omega)))

end Go.Proofs.Ytgndnodahlabiaa
