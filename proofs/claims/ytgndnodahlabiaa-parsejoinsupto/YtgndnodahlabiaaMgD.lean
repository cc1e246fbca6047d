/-
  A node in the making (layer 10): the result's box, the node's box, and what a method of the parser owes at its end; a type.
  Rows of trees (layer 10): one more, and what stands with "," between: the contract of the parser's some.
  What stands with "," between (layer 10): the contract of the parser's some.
  None or more (layer 10), and what is parsed one deeper as a function value: the contracts of the parser's list and inner.
-/
import Derived.Test.YtgndnodahlabiaaMgC

/- A node in the making (layer 10): the result's box, the node's box, and what a method of the parser owes at its end; a type. -/
namespace Go.Proofs.Ytgndnodahlabiaa
open Go.ChangeShapes Go.WideShapes Go.ChangeAt Go.RowKit

theorem take_yes {W : World} {P : Nat} {av : Option Addr} {cap blk off : Nat} {ts : List Tok} {s : St} {r : Nat} (h : ParAt W P av cap blk off ts s r) {q : List UInt8} (hq : isW ts q s = true) :
    Calls Try.prog 68 #[.pointer (some ⟨P, 0, none⟩), .string (bs q)] W fun e W' => e = .returned (.bool true) ∧ ParAt W' P av cap blk off ts (adv s) r ∧ Turns (fun b => b = P) W W' := by
  have := take_is h q
  unfold takeS at this
  rw [hq, if_pos rfl] at this
  exact this
theorem take_no {W : World} {P : Nat} {av : Option Addr} {cap blk off : Nat} {ts : List Tok} {s : St} {r : Nat} (h : ParAt W P av cap blk off ts s r) {q : List UInt8} (hq : isW ts q s = false) :
    Calls Try.prog 68 #[.pointer (some ⟨P, 0, none⟩), .string (bs q)] W fun e W' => e = .returned (.bool false) ∧ ParAt W' P av cap blk off ts s r ∧ Turns (fun b => b = P) W W' := by
  have := take_is h q
  unfold takeS at this
  rw [hq, if_neg (by simp)] at this
  exact this

/-- A node in the making. -/
structure Fr (W0 : World) (P : Nat) (av : Option Addr) (cap blk off : Nat) (ts : List Tok) (s : St) (r b1 : Nat) (x0 x1 x2 x3 : Value) (W : World) : Prop where
  par : ParAt W P av cap blk off ts s r
  res : W.heap[W0.heap.size]? = some (.cells #[.int .i64 0, .string ⟨#[]⟩, .int .i64 0, .slice none 0 0] 24 (0, 0))
  nod : W.heap[b1]? = some (.cells #[x0, x1, x2, x3] 24 (0, 0))
  tur : Turns (fun b => b = P) W0 W
  lt : W0.heap.size < b1
  ne : P < W0.heap.size
  bk : 0 < ts.length → blk < W0.heap.size
theorem Fr.step {W0 W W' : World} {P : Nat} {av : Option Addr} {cap blk off : Nat} {ts : List Tok} {s s' : St} {r b1 : Nat} {x0 x1 x2 x3 : Value} (h : Fr W0 P av cap blk off ts s r b1 x0 x1 x2 x3 W) (p : ParAt W' P av cap blk off ts s' r) (t : Turns (fun b => b = P) W W') : Fr W0 P av cap blk off ts s' r b1 x0 x1 x2 x3 W' :=
  ⟨p, (t.block _ (lt_of h.res) (by have := h.ne; omega)).trans h.res, (t.block _ (lt_of h.nod) (by have := h.ne; have := h.lt; omega)).trans h.nod, h.tur.trans t, h.lt, h.ne, h.bk⟩
theorem Fr.below {W0 W W' : World} {P : Nat} {av : Option Addr} {cap blk off : Nat} {ts : List Tok} {s : St} {r b1 : Nat} {x0 x1 x2 x3 : Value} (h : Fr W0 P av cap blk off ts s r b1 x0 x1 x2 x3 W) (t : Below W.heap.size W W') : Fr W0 P av cap blk off ts s r b1 x0 x1 x2 x3 W' :=
  h.step (h.par.below t) (turns_b t)
theorem Fr.set {W0 W : World} {P : Nat} {av : Option Addr} {cap blk off : Nat} {ts : List Tok} {s : St} {r b1 : Nat} {x0 x1 x2 x3 : Value} (h : Fr W0 P av cap blk off ts s r b1 x0 x1 x2 x3 W) (o : Nat) (v : Value) :
    ParAt (W.setCell ⟨b1, o, none⟩ v) P av cap blk off ts s r ∧ (W.setCell ⟨b1, o, none⟩ v).heap[W0.heap.size]? = some (.cells #[.int .i64 0, .string ⟨#[]⟩, .int .i64 0, .slice none 0 0] 24 (0, 0)) ∧ Turns (fun b => b = P) W0 (W.setCell ⟨b1, o, none⟩ v) :=
  have hl := h.lt
  have hn := h.ne
  ⟨h.par.turns2 (turns_p b1 o v W) (by omega) (fun h0 => by have := h.bk h0; omega), ((turns_p b1 o v W).block _ (lt_of h.res) (by omega)).trans h.res, turns_own h.tur b1 o v (by omega)⟩
theorem Fr.set0 {W0 W : World} {P : Nat} {av : Option Addr} {cap blk off : Nat} {ts : List Tok} {s : St} {r b1 : Nat} {x0 x1 x2 x3 : Value} (h : Fr W0 P av cap blk off ts s r b1 x0 x1 x2 x3 W) (v : Value) : Fr W0 P av cap blk off ts s r b1 v x1 x2 x3 (W.setCell ⟨b1, 0, none⟩ v) :=
  ⟨(h.set 0 v).1, (h.set 0 v).2.1, heap_set_same' h.nod 0 v, (h.set 0 v).2.2, h.lt, h.ne, h.bk⟩
theorem Fr.set1 {W0 W : World} {P : Nat} {av : Option Addr} {cap blk off : Nat} {ts : List Tok} {s : St} {r b1 : Nat} {x0 x1 x2 x3 : Value} (h : Fr W0 P av cap blk off ts s r b1 x0 x1 x2 x3 W) (v : Value) : Fr W0 P av cap blk off ts s r b1 x0 v x2 x3 (W.setCell ⟨b1, 1, none⟩ v) :=
  ⟨(h.set 1 v).1, (h.set 1 v).2.1, heap_set_same' h.nod 1 v, (h.set 1 v).2.2, h.lt, h.ne, h.bk⟩
theorem Fr.set3 {W0 W : World} {P : Nat} {av : Option Addr} {cap blk off : Nat} {ts : List Tok} {s : St} {r b1 : Nat} {x0 x1 x2 x3 : Value} (h : Fr W0 P av cap blk off ts s r b1 x0 x1 x2 x3 W) (v : Value) : Fr W0 P av cap blk off ts s r b1 x0 x1 x2 v (W.setCell ⟨b1, 3, none⟩ v) :=
  ⟨(h.set 3 v).1, (h.set 3 v).2.1, heap_set_same' h.nod 3 v, (h.set 3 v).2.2, h.lt, h.ne, h.bk⟩
/-- A method begins: the result's box, then the node in its own. -/
theorem Fr.start {W0 W1 : World} {P : Nat} {av : Option Addr} {cap blk off : Nat} {ts : List Tok} {s : St} {r : Nat} (h : ParAt W0 P av cap blk off ts s r) (hb : Below (W0.alloc (.cells #[.int .i64 0, .string ⟨#[]⟩, .int .i64 0, .slice none 0 0] 24)).heap.size (W0.alloc (.cells #[.int .i64 0, .string ⟨#[]⟩, .int .i64 0, .slice none 0 0] 24)) W1) (k a : Int) :
    Fr W0 P av cap blk off ts s r W1.heap.size (.int .i64 k) (.string ⟨#[]⟩) (.int .i64 a) (.slice none 0 0) (W1.alloc (.cells #[.int .i64 k, .string ⟨#[]⟩, .int .i64 a, .slice none 0 0] 24)) := by
  have hb0 := bel_new W0 (.cells #[.int .i64 0, .string ⟨#[]⟩, .int .i64 0, .slice none 0 0] 24)
  have hb2 := bel_new W1 (.cells #[.int .i64 k, .string ⟨#[]⟩, .int .i64 a, .slice none 0 0] 24)
  have hk0 : (W0.alloc (.cells #[.int .i64 0, .string ⟨#[]⟩, .int .i64 0, .slice none 0 0] 24)).heap[W0.heap.size]? = some (.cells #[.int .i64 0, .string ⟨#[]⟩, .int .i64 0, .slice none 0 0] 24 (0, 0)) := World.alloc_heap_new W0 _
  have hs := hb.size
  rw [World.size_alloc] at hs
  have hB : Below W0.heap.size W0 W1 := hb0.trans (hb.mono hb0.size)
  exact ⟨(h.below hB).below hb2, (hb2.block _ (by omega)).trans ((hb.block _ (by rw [World.size_alloc]; omega)).trans hk0), World.alloc_heap_new W1 _, turns_b (bel_two hB hb2), by omega, lt_of h.box, fun h0 => (h.lt h0).1⟩

/-- The kids of a node. -/
structure Kids (base : Nat) (W : World) (kv : Value) (ks : List Nv) : Prop where
  ex : ∃ av cap blk off, kv = .slice av ks.length cap ∧ RowT base W av blk off ks ∧ (∀ n, n ∈ ks → Lies base W n) ∧ ks.length ≤ cap
theorem kids_none (base : Nat) (W : World) : Kids base W (.slice none 0 0) [] :=
  ⟨none, 0, 0, 0, rfl, ⟨fun h => absurd h (by simp), fun h => absurd h (by simp), fun i f h => absurd h (by simp)⟩, (fun n hn => by cases hn), Nat.le_refl _⟩
theorem Kids.turns {base : Nat} {W W' : World} {Q : Nat → Prop} {kv : Value} {ks : List Nv} (h : Kids base W kv ks) (ht : Turns Q W W') (hq : ∀ b, base ≤ b → b < W.heap.size → ¬ Q b) : Kids base W' kv ks := by
  obtain ⟨av, cap, blk, off, rfl, h1, h2, hc⟩ := h.ex
  exact ⟨av, cap, blk, off, rfl, h1.turns ht hq, fun n hn => (h2 n hn).turns ht hq, hc⟩
theorem kids_one {base : Nat} {W : World} {n : Nv} (h : Lies base W n) (hb : base ≤ W.heap.size) : Kids base (W.alloc (.cells n.cs.toArray 24)) (.slice (some ⟨W.heap.size, 0, none⟩) 1 1) [n] := by
  have hk := World.alloc_heap_new W (.cells n.cs.toArray 24)
  refine ⟨_, 1, W.heap.size, 0, rfl, ⟨fun _ => rfl, fun _ => ⟨hb, by simp⟩, fun i f hi hf => ?_⟩, fun m hm => ?_, Nat.le_refl _⟩
  · obtain rfl : i = 0 := by simp at hi; omega
    rw [cell_of hk]
    simp
  · obtain rfl : m = n := by simpa using hm
    exact h.turns (Turns.alloc (fun _ => False) W _) (fun _ _ _ h => h)
theorem nd_mk (k : Int) (t : List UInt8) (a : Int) (av : Option Addr) (cap blk off : Nat) (ks : List Nv) : (Nv.mk k t a av cap blk off ks).nd = .mk k t a (ks.map Nv.nd) := by rw [Nv.nd, ndL_map]
/-- A method ends: the node goes into the result's box. -/
theorem Fr.fin {W0 W : World} {P : Nat} {av : Option Addr} {cap blk off : Nat} {ts : List Tok} {s s0 : St} {r b1 : Nat} {w : Pa} {k : Int} {t : List UInt8} {a : Int} {kv : Value} {ks : List Nv} (h : Fr W0 P av cap blk off ts s r b1 (.int .i64 k) (.string (bs t)) (.int .i64 a) kv W)
    (hk : Kids (b1 + 1) W kv ks) (hw : w s0 = (.mk k t a (ks.map Nv.nd), s)) :
    PaAns P av cap blk off ts r w s0 W0 (.returned (.agg #[.int .i64 k, .string (bs t), .int .i64 a, kv])) ((((W.setCell ⟨W0.heap.size, 0, none⟩ (.int .i64 k)).setCell ⟨W0.heap.size, 1, none⟩ (.string (bs t))).setCell ⟨W0.heap.size, 2, none⟩ (.int .i64 a)).setCell ⟨W0.heap.size, 3, none⟩ kv) := by
  obtain ⟨kav, kcap, kblk, koff, rfl, k1, k2, kc⟩ := hk.ex
  have hl := h.lt
  have hn := h.ne
  obtain ⟨q1, q2⟩ := put4 (b := W0.heap.size) (v0 := .int .i64 k) (v1 := .string (bs t)) (v2 := .int .i64 a) (v3 := .slice kav ks.length kcap) h.tur (Nat.le_refl _)
  refine ⟨.mk k t a kav kcap kblk koff ks, rfl, ?_, by rw [nd_mk, hw], ?_, q1⟩
  · exact Lies.mono (base := b1 + 1) (Lies.turns (.mk k1 k2 kc) q2 (fun c hc _ => by omega)) (by omega)
  · rw [hw]
    exact h.par.turns2 q2 (by omega) (fun h0 => by have := h.bk h0; omega)

end Go.Proofs.Ytgndnodahlabiaa

/- Rows of trees (layer 10): one more, and what stands with "," between: the contract of the parser's some. -/
namespace Go.Proofs.Ytgndnodahlabiaa
open Go.ChangeShapes Go.WideShapes Go.ChangeAt Go.RowKit

theorem nflat_len (l : List Nv) : (l.flatMap Nv.cs).length = l.length * 4 := by
  induction l with
  | nil => rfl
  | cons x r ih => cases x; rw [List.flatMap_cons, List.length_append, ih, List.length_cons]; simp; omega
theorem nflat_get : ∀ (l : List Nv) (j f : Nat) (hj : j < l.length), f < 4 → (l.flatMap Nv.cs)[j * 4 + f]? = ((l[j]'hj).cs)[f]?
  | x :: r, 0, f, _, hf => by cases x; rw [List.flatMap_cons, List.getElem?_append_left (by simp; omega)]; simp
  | x :: r, j + 1, f, hj, hf => by
    have hx : (Nv.cs x).length = 4 := by cases x; rfl
    rw [List.flatMap_cons, List.getElem?_append_right (by rw [hx]; omega)]
    have := nflat_get r j f (by simpa using hj) hf
    rw [show (j + 1) * 4 + f - (Nv.cs x).length = j * 4 + f by rw [hx]; omega, this]; rfl
set_option maxRecDepth 100000 in
theorem typ24 : ∃ i, Try.prog.info? 24 = some i ∧ i.zero = some (.agg #[.int .i64 0, .string ⟨#[]⟩, .int .i64 0, .slice none 0 0]) ∧ i.bytes = 56 ∧ i.size = 4 := by
  refine ⟨_, rfl, ?_, ?_, ?_⟩ <;> kernel_rfl
/-- One tree more. -/
theorem app_node (w : World) (ty : TypeId) (base : Nat) (v : Value) (n : Nat) (xs : List Value) (hown : w.ownsRow base 24 4 v n xs) (x : Nv) (hbd : n ≤ 10000000) (hbase : base ≤ w.heap.size) :
    ∃ g cap w', (Builtin.append_ #[22, 22] ty #[v, .slice (some ⟨w.heap.size, 0, none⟩) 1 1]).run Try.prog (w.alloc (.cells x.cs.toArray 24)) = .ok (.slice (some ⟨g, 0, none⟩) (n + 1) cap) w' ∧ w'.ownsRow base 24 4 (.slice (some ⟨g, 0, none⟩) (n + 1) cap) (n + 1) (xs ++ x.cs) ∧ (w.alloc (.cells x.cs.toArray 24)).grownBy w' v.ownBlock ∧ (v.ownBlock = some g ∨ g = w.heap.size + 1) ∧ g < w'.heap.size := by
  obtain ⟨i, h1, h2, h3, h4⟩ := typ24
  obtain ⟨k, t, a, av, cap, blk, off, ks⟩ := x
  exact run_append_lies (P := Try.prog) (w.alloc (.cells (Nv.mk k t a av cap blk off ks).cs.toArray 24)) 22 ty base 24 i _ 4 56 Try.underlying22 h1 h2 h4 h3 rfl (by decide) v n xs (hown.alloc _) ⟨w.heap.size, 0, none⟩ 1 1 (Nv.mk k t a av cap blk off ks).cs rfl
    (fun j u hu => by
      rw [Addr.add_mid, Nat.zero_add, cell_of (World.alloc_heap_new w _), List.getElem?_toArray]; exact hu)
    (fun u hu => by simp at hu; rcases hu with rfl | rfl | rfl | rfl <;> rfl) (by decide) (by unfold maxLen; omega) (by omega) (by simp; omega) _ (by simp)
theorem own_turns {w w' : World} {Q : Nat → Prop} {base : Nat} {e : TypeId} {size : Nat} {v : Value} {n : Nat} {xs : List Value} (h : w.ownsRow base e size v n xs) (ht : Turns Q w w') (hq : ∀ b, base ≤ b → b < w.heap.size → ¬ Q b) : w'.ownsRow base e size v n xs := by
  refine ⟨h.1, ?_⟩
  rcases h.2 with h2 | ⟨g, cap, cur, e1, h3, h4, h5⟩
  · exact .inl h2
  · exact .inr ⟨g, cap, cur, e1, h3, (ht.block g (lt_of h4) (hq g h3 (lt_of h4))).trans h4, h5⟩
/-- Trees in a row of one's own. -/
structure OwnK (base : Nat) (W : World) (kv : Value) (ks : List Nv) : Prop where
  own : W.ownsRow base 24 4 kv ks.length (ks.flatMap Nv.cs)
  each : ∀ n, n ∈ ks → LiesD (fun b => base ≤ b ∧ kv.ownBlock ≠ some b) W n
theorem OwnK.turns {base : Nat} {W W' : World} {Q : Nat → Prop} {kv : Value} {ks : List Nv} (h : OwnK base W kv ks) (ht : Turns Q W W') (hq : ∀ b, base ≤ b → b < W.heap.size → ¬ Q b) : OwnK base W' kv ks :=
  ⟨own_turns h.own ht hq, fun n hn => (h.each n hn).turns ht (fun b hb => hq b hb.1)⟩
theorem own_shape {w : World} {base : Nat} {e : TypeId} {size : Nat} {v : Value} {n : Nat} {xs : List Value} (h : w.ownsRow base e size v n xs) : ∃ av cap, v = .slice av n cap ∧ n ≤ cap ∧ cap ≤ maxLen := by
  rcases h.2 with ⟨rfl, rfl, _⟩ | ⟨g, cap, cur, rfl, _, _, h5, h6, _⟩
  · exact ⟨none, 0, rfl, Nat.le_refl _, Nat.zero_le _⟩
  · exact ⟨_, cap, rfl, h5, h6⟩
theorem OwnK.kids {base : Nat} {W : World} {kv : Value} {ks : List Nv} (h : OwnK base W kv ks) : Kids base W kv ks := by
  obtain ⟨av, cap, rfl, h1, h2⟩ := own_shape h.own
  have hE : ∀ n, n ∈ ks → Lies base W n := fun n hn => (h.each n hn).mono (fun _ hb _ => hb.1)
  by_cases h0 : 0 < ks.length
  · obtain ⟨g, cp, e, _, _⟩ := h.own.form h0
    injection e with e1 e2 e3
    subst e1
    have hl := h.own.lt g rfl
    refine ⟨_, cap, g, 0, rfl, ⟨fun _ => rfl, fun _ => hl, fun i f hi hf => ?_⟩, hE, h1⟩
    have := h.own.cells (g := g) rfl (i * 4 + f) _ (by rw [nflat_get ks i f hi hf, List.getElem?_eq_getElem (by cases ks[i]; exact hf)])
    rw [Addr.add_mid] at this
    rw [Nat.zero_add, List.getElem?_eq_getElem (by cases ks[i]; exact hf)]
    simpa using this
  · have : ks = [] := List.eq_nil_of_length_eq_zero (by omega)
    subst this
    exact ⟨av, cap, 0, 0, rfl, ⟨fun h => absurd h h0, fun h => absurd h h0, fun i f h => absurd h (by simp)⟩, hE, h1⟩
theorem own_one {base : Nat} {W : World} {n : Nv} (h : Lies base W n) (hb : base ≤ W.heap.size) : OwnK base (W.alloc (.cells n.cs.toArray 24)) (.slice (some ⟨W.heap.size, 0, none⟩) 1 1) [n] := by
  refine ⟨⟨by cases n; simp, .inr ⟨W.heap.size, 1, n.cs.toArray, rfl, hb, World.alloc_heap_new W _, Nat.le_refl _, by decide, ?_, ?_⟩⟩, fun m hm => ?_⟩
  · cases n; simp
  · cases n; simp
  · obtain rfl : m = n := by simpa using hm
    exact (LiesD.mono h (D' := fun b => base ≤ b ∧ Value.ownBlock (.slice (some ⟨W.heap.size, 0, none⟩) 1 1) ≠ some b) (fun b hb hl => ⟨hb, by simp [Value.ownBlock]; omega⟩)).turns (Turns.alloc (fun _ => False) W _) (fun _ _ _ h => h)

/-- One more, in a row of one's own. -/
theorem own_more {base B : Nat} {W : World} {kv : Value} {ks : List Nv} (ok : OwnK base W kv ks) (n : Nv) (hn : Lies B W n) (hB : ∀ c, kv.ownBlock = some c → c < B) (hBb : base ≤ B) (hks : ks.length ≤ 10000000) (hbase : base ≤ W.heap.size) :
    ∃ g cap w', (Builtin.append_ #[22, 22] 22 #[kv, .slice (some ⟨W.heap.size, 0, none⟩) 1 1]).run Try.prog (W.alloc (.cells n.cs.toArray 24)) = .ok (.slice (some ⟨g, 0, none⟩) (ks.length + 1) cap) w' ∧ OwnK base w' (.slice (some ⟨g, 0, none⟩) (ks.length + 1) cap) (ks ++ [n]) ∧ Turns (fun b => kv.ownBlock = some b) W w' := by
  obtain ⟨g, cap, w', q1, q2, q3, q4, q5⟩ := app_node W 22 base kv ks.length _ ok.own n hks hbase
  have hA := Turns.alloc (fun b => kv.ownBlock = some b) W (.cells n.cs.toArray 24)
  have T : Turns (fun b => kv.ownBlock = some b) W w' := hA.trans ⟨q3.os, q3.tape, q3.output, q3.size, fun b hb hq => q3.block b hb (fun e => hq e.symm)⟩
  refine ⟨g, cap, w', q1, ⟨?_, fun m hm => ?_⟩, T⟩
  · rw [List.flatMap_append]
    simpa using q2
  · have hD : LiesD (fun b => base ≤ b ∧ b ≠ g ∧ kv.ownBlock ≠ some b) W m := by
      rcases List.mem_append.1 hm with hm | hm
      · refine (ok.each m hm).mono (fun b hb hl => ⟨hb.1, ?_, hb.2⟩)
        rintro rfl
        rcases q4 with q4 | q4
        · exact hb.2 q4
        · omega
      · obtain rfl : m = n := by simpa using hm
        refine LiesD.mono hn (fun b hb hl => ⟨by omega, ?_, fun e => by have := hB b e; omega⟩)
        rintro rfl
        rcases q4 with q4 | q4
        · have := hB _ q4; omega
        · omega
    exact (hD.turns T (fun b hb _ e => hb.2.2 e)).mono (fun b hb _ => ⟨hb.1, by simp [Value.ownBlock]; exact fun e => hb.2.1 e.symm⟩)
theorem own_nil (base : Nat) (W : World) : OwnK base W (.slice none 0 0) [] := ⟨⟨rfl, .inl ⟨rfl, rfl⟩⟩, fun n hn => by cases hn⟩
theorem OwnK.mono {base base' : Nat} {W : World} {kv : Value} {ks : List Nv} (h : OwnK base W kv ks) (hb : base' ≤ base) : OwnK base' W kv ks := by
  refine ⟨⟨h.own.1, ?_⟩, fun n hn => (h.each n hn).mono (fun b k _ => ⟨Nat.le_trans hb k.1, k.2⟩)⟩
  rcases h.own.2 with h2 | ⟨g, cap, cur, e1, h3, h4⟩
  · exact .inl h2
  · exact .inr ⟨g, cap, cur, e1, Nat.le_trans hb h3, h4⟩

end Go.Proofs.Ytgndnodahlabiaa

/- What stands with "," between (layer 10): the contract of the parser's some. -/
namespace Go.Proofs.Ytgndnodahlabiaa
open Go.ChangeShapes Go.WideShapes Go.ChangeAt Go.RowKit

/-- A function value that parses. -/
structure FnV (P : Nat) (av : Option Addr) (cap blk off : Nat) (ts : List Tok) (r : Nat) (g : Value) (w : Pa) (Rd : World → Prop) : Prop where
  ex : ∃ K ma cl, g = .func (.func K) ma cl ∧ (∀ V : World, (callFunc K (ma ++ cl)).run Try.prog V = .ok (.enter K (ma ++ cl)) V) ∧ ∀ s V, ParAt V P av cap blk off ts s r → Rd V → Calls Try.prog K (ma ++ cl) V (PaAns P av cap blk off ts r w s V)
  keep : ∀ V V', Rd V → Turns (fun b => b = P) V V' → Rd V'
  good : GoodP ts w

/-- How much is left, by the parser's own cell. -/
def leftOf (P n : Nat) (W : World) : Nat := match W.cell? ⟨P, 1, none⟩ with
  | some (.int _ z) => n - z.toNat
  | _ => 0
theorem leftOf_is {W : World} {P : Nat} {av : Option Addr} {cap blk off : Nat} {ts : List Tok} {s : St} {r : Nat} (h : ParAt W P av cap blk off ts s r) : leftOf P ts.length W = left ts s := by
  unfold leftOf left
  rw [h.cell.2.1]
  simp

set_option maxRecDepth 100000 in
set_option maxHeartbeats 4000000 in
theorem some_own {W : World} {P : Nat} {av : Option Addr} {cap blk off : Nat} {ts : List Tok} {s : St} {r : Nat} {g : Value} {w : Pa} {Rd : World → Prop} (h : ParAt W P av cap blk off ts s r) (hf : FnV P av cap blk off ts r g w Rd) (hr : Rd W) (q : List UInt8) :
    Calls Try.prog 72 #[.pointer (some ⟨P, 0, none⟩), g, .string (bs q)] W fun e W' => ∃ ks kv, e = .returned kv ∧ OwnK W.heap.size W' kv ks ∧ ks.map Nv.nd = (someS ts w q s).1 ∧ ParAt W' P av cap blk off ts (someS ts w q s).2 r ∧ Turns (fun b => b = P) W W' := by
  obtain ⟨K, ma, cl, rfl, hcf, hcall⟩ := hf.ex
  have HCALL := hidW hcall
  have HG := hidW hf.good
  have HKEEP := hidW hf.keep
  have hlt := lt_of h.box
  have hlen := h.len
  have HLB := hidW (fun h0 => (h.lt h0).1)
  have H1 := hidW (hcall s W h hr)
  have HR := hidW hr
  clear hcall hf h hr
  unfold someS
  simp only
  generalize hMM : moreS ts w (left ts (w s).2) [(w s).1] (w s).2 = MM
  go_enter Try.func72, Try.ntmps72
  go_wp2_with fail
  refine H1.out.mono ?_
  clear H1
  rintro e W1 ⟨⟨nk, nt, na, nav, ncap, nblk, noff, nks⟩, rfl, hl, hn, p1, t1⟩
  have o1 := own_one hl t1.size
  have hb2 := bel_new W1 (.cells #[.int .i64 nk, .string (bs nt), .int .i64 na, .slice nav nks.length ncap] 24)
  have p2 := p1.below hb2
  have t2 := t1.trans (turns_b hb2)
  have hM : moreS ts w (left ts (w s).2) ([(Nv.mk nk nt na nav ncap nblk noff nks)].map Nv.nd) (w s).2 = MM := by rw [← hMM, ← hn]; rfl
  have hML : Hid (∃ (ks : List Nv) (s1 : St) (m : Nat) (kv : Value), Value.slice (some ⟨W1.heap.size, 0, none⟩) 1 1 = kv ∧ OwnK W.heap.size (W1.alloc (.cells #[.int .i64 nk, .string (bs nt), .int .i64 na, .slice nav nks.length ncap] 24)) kv ks ∧ ParAt (W1.alloc (.cells #[.int .i64 nk, .string (bs nt), .int .i64 na, .slice nav nks.length ncap] 24)) P av cap blk off ts s1 r ∧ Turns (fun b => b = P) W (W1.alloc (.cells #[.int .i64 nk, .string (bs nt), .int .i64 na, .slice nav nks.length ncap] 24)) ∧ moreS ts w m (ks.map Nv.nd) s1 = MM ∧ left ts s1 ≤ m ∧ ks.length + left ts s1 ≤ ts.length + 1) :=
    ⟨_, _, _, _, rfl, o1, p2, t2, hM, Nat.le_refl _, by unfold left; simp; omega⟩
  clear o1 hb2 p2 t2 hM hMM hl hn p1 t1
  go_wp2_with fail
  go_loopw [7] (fun l wr => ∃ (ks : List Nv) (s1 : St) (m : Nat) (kv : Value), l = kv ∧ OwnK W.heap.size wr kv ks ∧ ParAt wr P av cap blk off ts s1 r ∧ Turns (fun b => b = P) W wr ∧ moreS ts w m (ks.map Nv.nd) s1 = MM ∧ left ts s1 ≤ m ∧ ks.length + left ts s1 ≤ ts.length + 1) (fun _ wr => leftOf P ts.length wr)
  case atStart => exact hML.out
  case round =>
    obtain ⟨ks, s1, m, kv, rfl, ok, pk, tk, hmm, hfu, hlen2⟩ := hrel
    clear hML
    have hlw := tk.size
    cases q44 : isW ts [44] s1 with
    | true =>
      obtain ⟨_, hp1⟩ := isW_at q44
      have hpl := pk.pl
      have hgd := HG.out (adv s1)
      have hle := hgd.le
      obtain ⟨m', rfl⟩ : ∃ m', m = m' + 1 := ⟨m - 1, by unfold left at hfu; omega⟩
      have hmm2 : moreS ts w m' (ks.map Nv.nd ++ [(w (adv s1)).1]) (w (adv s1)).2 = MM := by
        unfold moreS at hmm
        rw [if_pos q44] at hmm
        exact hmm
      have hT := hidW (take_yes pk q44)
      have hlo := leftOf_is pk
      have hadv : (adv s1).pl = s1.pl + 1 := rfl
      have HH := hidW (And.intro ok (And.intro pk (And.intro tk (And.intro hmm2 (And.intro hfu hlen2)))))
      clear ok pk tk hmm hmm2 hfu hlen2 hgd
      go_wp2_with fail
      refine hT.out.mono ?_
      clear hT
      rintro e W3 ⟨rfl, p3, t3⟩
      obtain ⟨ok, pk, tk, hmm2, hfu, hlen2⟩ := HH.out
      have hR3 := HKEEP.out _ _ HR.out (tk.trans t3)
      have hC := hidW (HCALL.out (adv s1) W3 p3 hR3)
      have ok3 := ok.turns t3 (fun b hb _ e => by omega)
      have HK := hidW (And.intro ok3 (tk.trans t3))
      have HH2 := hidW (And.intro hmm2 (And.intro hfu hlen2))
      clear HH ok pk tk hmm2 hfu hlen2 p3 t3 hR3 ok3
      go_wp2_with fail
      refine hC.out.mono ?_
      clear hC
      rintro e W4 ⟨⟨mk, mt, ma', mav, mcap, mblk, moff, mks⟩, rfl, hl4, hn4, p4, t4⟩
      obtain ⟨ok3, tk3⟩ := HK.out
      have ok4 := ok3.turns t4 (fun b hb _ e => by omega)
      have hks : ks.length ≤ 10000000 := by have := HH2.out.2.2; omega
      obtain ⟨gg, cc, W5, hap, ok5, t5⟩ := own_more ok4 _ hl4 (fun c hc => (ok3.own.lt c hc).2) tk3.size hks (Nat.le_trans tk3.size t4.size)
      have hkv := fun c hc => ok4.own.lt c hc
      have t6 : Turns (fun b => b = P) W W5 := by
        have := tk3.trans t4
        exact ⟨t5.os.trans this.os, t5.tape.trans this.tape, t5.output.trans this.output, Nat.le_trans this.size t5.size, fun b hb hq => (t5.block b (Nat.lt_of_lt_of_le hb this.size) (fun e => by have := (hkv b e).1; omega)).trans (this.block b hb hq)⟩
      have p5 := p4.turns2 t5 (fun e => by have := (hkv P e).1; omega) (fun h0 e => by have := (hkv blk e).1; have := (HLB.out h0); omega)
      have HAP := hidW hap
      have hlo5 := leftOf_is p5
      have HH3 := hidW (And.intro ok5 (And.intro p5 (And.intro t6 hn4)))
      clear hap ok5 p5 t6 t5 p4 t4 hl4 hn4 ok4 ok3 tk3 HK hkv hks
      go_wp2_with (at_builtin; refine wpList_append_run rfl (.tmp 13) (.tmp 16) 22 rfl rfl rfl HAP.out ?_)
      go_roundw
      case rel =>
        obtain ⟨ok5, p5, t6, hn4⟩ := HH3.out
        obtain ⟨hmm2, hfu, hlen2⟩ := HH2.out
        refine ⟨_, _, m', _, rfl, ok5, p5, t6, ?_, ?_, ?_⟩
        · rw [List.map_append, List.map_cons, List.map_nil, hn4]; exact hmm2
        · unfold left at hfu ⊢; omega
        · rw [List.length_append]; unfold left at hlen2 ⊢; simp; omega
      case measure =>
        rw [hlo, hlo5]
        unfold left
        omega
    | false =>
      have hMM : MM = (ks.map Nv.nd, s1) := by
        rw [← hmm]
        cases m with
        | zero => rfl
        | succ m => unfold moreS; rw [if_neg (by simp [q44])]
      subst hMM
      have hT := hidW (take_no pk q44)
      have HK := hidW (And.intro ok tk)
      clear ok pk tk hmm hfu hlen2
      go_wp2_with fail
      refine hT.out.mono ?_
      clear hT
      rintro e W3 ⟨rfl, p3, t3⟩
      have hW := hidW (want_is p3 q)
      have HT3 := hidW t3
      clear p3 t3
      go_wp2_with fail
      refine hW.out.mono ?_
      clear hW
      rintro e W4 ⟨rfl, p4, t4⟩
      go_wp2
      go_ret
      obtain ⟨ok, tk⟩ := HK.out
      have tt := HT3.out.trans t4
      exact ⟨ks, _, rfl, ok.turns tt (fun b hb _ e => by omega), rfl, p4, tk.trans tt⟩
theorem some_is {W : World} {P : Nat} {av : Option Addr} {cap blk off : Nat} {ts : List Tok} {s : St} {r : Nat} {g : Value} {w : Pa} {Rd : World → Prop} (h : ParAt W P av cap blk off ts s r) (hf : FnV P av cap blk off ts r g w Rd) (hr : Rd W) (q : List UInt8) :
    Calls Try.prog 72 #[.pointer (some ⟨P, 0, none⟩), g, .string (bs q)] W fun e W' => ∃ ks kv, e = .returned kv ∧ Kids W.heap.size W' kv ks ∧ ks.map Nv.nd = (someS ts w q s).1 ∧ ParAt W' P av cap blk off ts (someS ts w q s).2 r ∧ Turns (fun b => b = P) W W' :=
  (some_own h hf hr q).mono (fun _ _ ⟨ks, kv, e, ho, rest⟩ => ⟨ks, kv, e, ho.kids, rest⟩)

end Go.Proofs.Ytgndnodahlabiaa

/- None or more (layer 10), and what is parsed one deeper as a function value: the contracts of the parser's list and inner. -/
namespace Go.Proofs.Ytgndnodahlabiaa
open Go.ChangeShapes Go.WideShapes Go.ChangeAt Go.RowKit

set_option maxRecDepth 100000 in
set_option maxHeartbeats 1000000 in
theorem list_own {W : World} {P : Nat} {av : Option Addr} {cap blk off : Nat} {ts : List Tok} {s : St} {r : Nat} {g : Value} {w : Pa} {Rd : World → Prop} (h : ParAt W P av cap blk off ts s r) (hf : FnV P av cap blk off ts r g w Rd) (hr : Rd W) (q : List UInt8) :
    Calls Try.prog 59 #[.pointer (some ⟨P, 0, none⟩), g, .string (bs q)] W fun e W' => ∃ ks kv, e = .returned kv ∧ OwnK W.heap.size W' kv ks ∧ ks.map Nv.nd = (listS ts w q s).1 ∧ ParAt W' P av cap blk off ts (listS ts w q s).2 r ∧ Turns (fun b => b = P) W W' := by
  cases hq : isW ts q s with
  | true =>
    have hl : listS ts w q s = ([], adv s) := by unfold listS; rw [if_pos hq]
    rw [hl]
    have hT := hidW (take_yes h hq)
    clear h hf hl hq
    go_enter Try.func59, Try.ntmps59
    go_wp2_with fail
    refine hT.out.mono ?_; rintro e W1 ⟨rfl, p1, t1⟩
    go_wp2
    go_ret
    exact ⟨[], _, rfl, own_nil _ _, rfl, p1, t1⟩
  | false =>
    have hl : listS ts w q s = someS ts w q s := by unfold listS; rw [if_neg (by simp [hq])]
    rw [hl]
    have hT := hidW (take_no h hq)
    have HF := hidW hf
    have HR := hidW hr
    have hlt := lt_of h.box
    clear h hf hl hq hr
    go_enter Try.func59, Try.ntmps59
    go_wp2_with fail
    refine hT.out.mono ?_; rintro e W1 ⟨rfl, p1, t1⟩
    have hS := hidW (some_own p1 HF.out (HF.out.keep _ _ HR.out t1) q)
    have HT1 := hidW t1
    clear p1 t1 hT
    go_wp2_with fail
    refine hS.out.mono ?_; clear hS; rintro e W2 ⟨ks, kv, rfl, hk, hm, p2, t2⟩
    go_wp2
    go_ret
    have hs := HT1.out.size
    exact ⟨ks, _, rfl, hk.mono hs, hm, p2, HT1.out.trans t2⟩

theorem list_is {W : World} {P : Nat} {av : Option Addr} {cap blk off : Nat} {ts : List Tok} {s : St} {r : Nat} {g : Value} {w : Pa} {Rd : World → Prop} (h : ParAt W P av cap blk off ts s r) (hf : FnV P av cap blk off ts r g w Rd) (hr : Rd W) (q : List UInt8) :
    Calls Try.prog 59 #[.pointer (some ⟨P, 0, none⟩), g, .string (bs q)] W fun e W' => ∃ ks kv, e = .returned kv ∧ Kids W.heap.size W' kv ks ∧ ks.map Nv.nd = (listS ts w q s).1 ∧ ParAt W' P av cap blk off ts (listS ts w q s).2 r ∧ Turns (fun b => b = P) W W' :=
  (list_own h hf hr q).mono (fun _ _ ⟨ks, kv, e, ho, rest⟩ => ⟨ks, kv, e, ho.kids, rest⟩)

/-- What a closure of inner reads. -/
def Boxes (P b1 b2 : Nat) (g : Value) (V : World) : Prop := V.heap[b1]? = some (.cells #[.pointer (some ⟨P, 0, none⟩)] 74 (0, 0)) ∧ V.heap[b2]? = some (.cells #[g] 64 (0, 0))

set_option maxRecDepth 100000 in
theorem inner_is (W : World) (P : Nat) (K : FuncId) (ma cl : Array Value) :
    Calls Try.prog 79 #[.pointer (some ⟨P, 0, none⟩), .func (.func K) ma cl] W fun e W' => e = .returned (.func (.func 83) #[] #[.pointer (some ⟨W.heap.size, 0, none⟩), .pointer (some ⟨W.heap.size + 1, 0, none⟩)]) ∧ Boxes P W.heap.size (W.heap.size + 1) (.func (.func K) ma cl) W' ∧ Below W.heap.size W W' := by
  have hb1 := bel_new W (.cells #[.pointer (some ⟨P, 0, none⟩)] 74)
  have hb2 := bel_new (W.alloc (.cells #[.pointer (some ⟨P, 0, none⟩)] 74)) (.cells #[.func (.func K) ma cl] 64)
  have h1 := World.alloc_heap_new W (.cells #[.pointer (some ⟨P, 0, none⟩)] 74)
  have h2 := World.alloc_heap_new (W.alloc (.cells #[.pointer (some ⟨P, 0, none⟩)] 74)) (.cells #[.func (.func K) ma cl] 64)
  rw [World.size_alloc] at h2
  have HB := hidW (show Boxes P W.heap.size (W.heap.size + 1) (.func (.func K) ma cl) ((W.alloc (.cells #[.pointer (some ⟨P, 0, none⟩)] 74)).alloc (.cells #[.func (.func K) ma cl] 64)) from ⟨(hb2.block _ (by simp)).trans h1, h2⟩)
  have HBB := hidW (bel_two hb1 hb2)
  clear hb1 hb2 h1 h2
  go_enter Try.func79, Try.ntmps79
  go_wp2
  go_ret
  exact ⟨rfl, HB.out, HBB.out⟩

set_option maxRecDepth 100000 in
set_option maxHeartbeats 1000000 in
theorem inner1_is {V : World} {P : Nat} {av : Option Addr} {cap blk off : Nat} {ts : List Tok} {s : St} {r : Nat} {w : Pa} {g : Value} {b1 b2 : Nat} (h : ParAt V P av cap blk off ts s r) (hb : Boxes P b1 b2 g V)
    (hd : ∀ s W, ParAt W P av cap blk off ts s r → Calls Try.prog 73 #[.pointer (some ⟨P, 0, none⟩), g] W (PaAns P av cap blk off ts r w s W)) :
    Calls Try.prog 83 #[.pointer (some ⟨b1, 0, none⟩), .pointer (some ⟨b2, 0, none⟩)] V (PaAns P av cap blk off ts r w s V) := by
  obtain ⟨g1, g2⟩ := hb
  have hb0 := bel_new V (.cells #[.int .i64 0, .string ⟨#[]⟩, .int .i64 0, .slice none 0 0] 24)
  have hk0 : (V.alloc (.cells #[.int .i64 0, .string ⟨#[]⟩, .int .i64 0, .slice none 0 0] 24)).heap[V.heap.size]? = some (.cells #[.int .i64 0, .string ⟨#[]⟩, .int .i64 0, .slice none 0 0] 24 (0, 0)) := World.alloc_heap_new V _
  have c1 := cell_of ((hb0.block b1 (lt_of g1)).trans g1) 0
  have c2 := cell_of ((hb0.block b2 (lt_of g2)).trans g2) 0
  simp only [List.getElem?_toArray, List.getElem?_cons_zero] at c1 c2
  have hlt := lt_of h.box
  have HBL := hidW h.lt
  have HD := hidW (hd s _ (h.below hb0))
  have ht0 : Turns (fun b => b = P) V (V.alloc (.cells #[.int .i64 0, .string ⟨#[]⟩, .int .i64 0, .slice none 0 0] 24)) := Turns.alloc _ _ _
  clear h hd hb0 g1 g2
  go_enter Try.func83, Try.ntmps83
  go_wp2_with fail
  refine HD.out.mono ?_
  clear HD
  rintro e W1 ⟨⟨k, tx, a, nav, ncap, nblk, noff, ks⟩, rfl, hl1, hn1, p1, t1⟩
  have hk1 := (t1.block V.heap.size (by simp) (by omega)).trans hk0
  have z0 := cell_of hk1 0
  have z1 := cell_of hk1 1
  have z2 := cell_of hk1 2
  have z3 := cell_of hk1 3
  have f0 := frozen_of hk1 0
  have f1 := frozen_of hk1 1
  have f2 := frozen_of hk1 2
  have f3 := frozen_of hk1 3
  simp only [List.getElem?_toArray, List.getElem?_cons_zero, List.getElem?_cons_succ] at z0 z1 z2 z3
  obtain ⟨r0, r1, r2, r3⟩ := res4 hk1 (.int .i64 k) (.string (bs tx)) (.int .i64 a) (.slice nav ks.length ncap)
  have hT := hidW (ht0.trans t1)
  have hX := hidW (And.intro hl1 (And.intro hn1 p1))
  clear hk0 hk1 t1 ht0 hl1 hn1 p1
  go_wp2
  refine bodyPost_ret (v := .agg #[.int .i64 k, .string (bs tx), .int .i64 a, .slice nav ks.length ncap]) (by simp [results, Try.results83, go_sem, r0, r1, r2, r3]) rfl ?_
  obtain ⟨q1, q2⟩ := put4 (b := V.heap.size) (v0 := .int .i64 k) (v1 := .string (bs tx)) (v2 := .int .i64 a) (v3 := .slice nav ks.length ncap) hT.out (Nat.le_refl _)
  obtain ⟨hl1, hn1, p1⟩ := hX.out
  refine ⟨.mk k tx a nav ncap nblk noff ks, rfl, ?_, hn1, p1.turns2 q2 (by omega) (fun h0 => by have := (HBL.out h0).1; omega), q1⟩
  exact Lies.mono (Lies.turns hl1 q2 (fun c hc _ => by rw [World.size_alloc] at hc; omega)) (by rw [World.size_alloc]; omega)

theorem enter83 (p q : Value) (V : World) : (callFunc 83 (#[] ++ #[p, q])).run Try.prog V = .ok (.enter 83 (#[] ++ #[p, q])) V := by go_simp
/-- What inner answers, as a function value that parses. -/
theorem inner_fn {P : Nat} {av : Option Addr} {cap blk off : Nat} {ts : List Tok} {r : Nat} {w : Pa} {g : Value} {b1 b2 : Nat} (h1 : b1 ≠ P) (h2 : b2 ≠ P) (hg : GoodP ts w)
    (hd : ∀ s W, ParAt W P av cap blk off ts s r → Calls Try.prog 73 #[.pointer (some ⟨P, 0, none⟩), g] W (PaAns P av cap blk off ts r w s W)) :
    FnV P av cap blk off ts r (.func (.func 83) #[] #[.pointer (some ⟨b1, 0, none⟩), .pointer (some ⟨b2, 0, none⟩)]) w (Boxes P b1 b2 g) :=
  ⟨⟨83, #[], _, rfl, enter83 _ _, fun _ _ hp hb => inner1_is hp hb hd⟩, fun _ _ hb ht => ⟨(ht.block _ (lt_of hb.1) h1).trans hb.1, (ht.block _ (lt_of hb.2) h2).trans hb.2⟩, hg⟩

end Go.Proofs.Ytgndnodahlabiaa
