/-
  A writer (layer 10): its builder, and the contracts of the builder's methods in it.
  A writer (layer 10): the contract of put.
  A writer (layer 10): the contracts of nodes, list and lines, of rows of trees that are not too great.
  The laws' small case (layer 10), in plain words.
-/
import Derived.Test.YtgndnodahlabiaaMgA
import Derived.Test.YtgndnodahlabiaaMgJ
import Derived.Lib.FrozenHead2
import Derived.Lib.OthersKept
import Derived.KernelRfl

/- A writer (layer 10): its builder, and the contracts of the builder's methods in it. -/
namespace Go.Proofs.Ytgndnodahlabiaa
open Go.ChangeShapes Go.WideShapes Go.ChangeAt Go.RowKit

theorem size48 : (Try.prog.info? 48).map (·.size) = some 3 := by kernel_rfl
theorem lies48 : liesAt Try.prog Try.prog.depth 48 (3 / Try.prog.cellsOf 48) 0 46 1 = true := by kernel_rfl
theorem size46 : (Try.prog.info? 46).map (·.size) = some 2 := by kernel_rfl
theorem infoByte5 : (Try.prog.info? 5).map (fun i => (i.zero, i.size, i.bytes)) = some (some (.int .u8 0), 1, 1) := by kernel_rfl
/-- A writer at b, whose blocks lie from B on. -/
structure WrAt (B b : Nat) (x : Ws) (W : World) : Prop where
  le : B ≤ b
  sz : B ≤ W.heap.size
  box : ∃ p v, W.heap[b]? = some (.cells #[.pointer p, v, .bool x.b] 48 (0, 0)) ∧ (p = none ∨ p = some ⟨b, 0, none⟩) ∧ W.ownsRowF B 5 1 v x.l.length (Lib.byteCells x.l) ∧ v.ownBlock ≠ some b ∧ (x.l = [] → v = .slice none 0 0)
/-- What a writer's method leaves: nothing below B, no other block but rows of bytes. -/
structure Wrt (B b : Nat) (W W' : World) : Prop where
  below : Below B W W'
  others : Lib.OthersKept 5 (some b) W W'
theorem Wrt.refl (B b : Nat) (W : World) : Wrt B b W W := ⟨Below.refl B W, Lib.OthersKept.refl _ _ W⟩
theorem Wrt.trans {B b : Nat} {W V U : World} (h : Wrt B b W V) (k : Wrt B b V U) : Wrt B b W U := ⟨h.below.trans k.below, h.others.trans k.others⟩
theorem Wrt.alloc {B b : Nat} {W : World} (h : B ≤ W.heap.size) (o : Obj) : Wrt B b W (W.alloc o) := ⟨(Below.refl B W).alloc h o, (Lib.OthersKept.refl _ _ W).alloc o⟩
theorem WrAt.alloc {B b : Nat} {x : Ws} {W : World} (h : WrAt B b x W) (o : Obj) : WrAt B b x (W.alloc o) := by
  obtain ⟨p, v, h1, h2, h3, h4, h5⟩ := h.box
  exact ⟨h.le, Nat.le_trans h.sz (by simp), p, v, ((bel_new W o).block b (lt_of h1)).trans h1, h2, h3.alloc o, h4, h5⟩
/-- A block of another kind stands as it stood. -/
theorem Wrt.kept {B b : Nat} {W W' : World} (h : Wrt B b W W') {g : Nat} {cs : Array Value} {T : TypeId} {fz : Nat × Nat} (hg : W.heap[g]? = some (.cells cs T fz)) (hT : T ≠ 5) (hb : g ≠ b) : W'.heap[g]? = some (.cells cs T fz) :=
  h.others g _ hg (fun e => hb (Option.some.inj e)) (fun c f e => by cases e; exact hT rfl)

set_option maxHeartbeats 1000000 in
set_option maxRecDepth 100000 in
theorem wcheck_fresh (b : Nat) (w : World) (h0 : w.cell? ⟨b, 0, none⟩ = some (.pointer none)) (hsh : w.shape? b = some (48, 3)) (hfz : w.frozen? ⟨b, 0, none⟩ = false) :
    Calls Try.prog 63 #[.pointer (some ⟨b, 0, none⟩)] w fun e w' => e = .returned (.tuple #[]) ∧ w' = w.setCell ⟨b, 0, none⟩ (.pointer (some ⟨b, 0, none⟩)) := by
  obtain ⟨j, hj, hjs⟩ := Option.map_eq_some_iff.1 size46
  go_enter Try.func63, Try.ntmps63
  go_wp2
  rw [Lib.run_to_unsafe w ⟨b, 0, none⟩ Try.underlying43 Try.underlying92 hj (by rw [hjs]; decide) hsh (Nat.zero_lt_succ 2)]
  simp only [Result.andThen]
  rw [Oper.upon_value]
  go_wp2
  rw [run_callFunc_extern Try.func77 (by kernel_rfl) (by kernel_rfl) (by kernel_rfl) (e := Extern.AbiNoEscape.same) (by kernel_rfl)]
  rw [Lib.run_noEscape]
  simp only [Result.andThen]
  rw [Oper.upon_value]
  go_wp2
  rw [Lib.run_from_unsafe w ⟨b, 0, none⟩ Try.underlying92 Try.underlying43 hj hsh lies48]
  simp only [Result.andThen]
  rw [Oper.upon_value]
  go_wp2
  go_end0
  exact ⟨rfl, rfl⟩

set_option maxHeartbeats 1000000 in
set_option maxRecDepth 100000 in
theorem wcheck_used (b : Nat) (w : World) (h0 : w.cell? ⟨b, 0, none⟩ = some (.pointer (some ⟨b, 0, none⟩))) :
    Calls Try.prog 63 #[.pointer (some ⟨b, 0, none⟩)] w fun e w' => e = .returned (.tuple #[]) ∧ w' = w := by
  obtain ⟨j, hj, _⟩ := Option.map_eq_some_iff.1 size46
  go_enter Try.func63, Try.ntmps63
  go_wp2
  rw [Lib.run_neq_ptr_same w _ Try.underlying43 hj]
  go_wp2
  go_end0
  exact ⟨rfl, rfl⟩
/-- The same, with the builder's own address laid. -/
structure WrUs (B b : Nat) (x : Ws) (v : Value) (W : World) : Prop where
  le : B ≤ b
  sz : B ≤ W.heap.size
  box : W.heap[b]? = some (.cells #[.pointer (some ⟨b, 0, none⟩), v, .bool x.b] 48 (0, 0))
  own : W.ownsRowF B 5 1 v x.l.length (Lib.byteCells x.l)
  ne : v.ownBlock ≠ some b
  nil : x.l = [] → v = .slice none 0 0
theorem owned_kind {W : World} {B n : Nat} {v : Value} {xs : List Value} (h : W.ownsRowF B 5 1 v n xs) : ∀ g, v.ownBlock = some g → ∃ c fz, W.heap[g]? = some (.cells c 5 fz) := Lib.ownsRowF_kind h
theorem ownF_set {W : World} {B n b o : Nat} {u v : Value} {xs : List Value} (h : W.ownsRowF B 5 1 v n xs) (hne : v.ownBlock ≠ some b) : (W.setCell ⟨b, o, none⟩ u).ownsRowF B 5 1 v n xs := by
  refine ⟨h.1, ?_⟩
  rcases h.2 with h2 | ⟨g, cap, cur, fz, e, h3, h4, h5⟩
  · exact .inl h2
  · refine .inr ⟨g, cap, cur, fz, e, h3, ?_, h5⟩
    rw [Below.heap_setCell _ _ _ _ (fun e2 => hne (by rw [e]; simp [Value.ownBlock]; exact e2))]
    exact h4
theorem wcheck {B b : Nat} {x : Ws} {W : World} (h : WrAt B b x W) :
    Calls Try.prog 63 #[.pointer (some ⟨b, 0, none⟩)] W fun e W' => e = .returned (.tuple #[]) ∧ (∃ v, WrUs B b x v W') ∧ Wrt B b W W' := by
  obtain ⟨p, v, h1, h2, h3, h4, h5⟩ := h.box
  rcases h2 with rfl | rfl
  · have hsh : W.shape? b = some (48, 3) := by simp [World.shape?, h1]
    exact (wcheck_fresh b W (cell_of h1 0) hsh (frozen_of h1 0)).mono fun e w' ⟨he, hw⟩ => ⟨he, ⟨v, hw ▸ ⟨h.le, by rw [size_set]; exact h.sz, heap_set_same' h1 0 _, ownF_set h3 h4, h4, h5⟩⟩,
      hw ▸ ⟨(Below.refl B W).setCell (p := ⟨b, 0, none⟩) h.le _, (Lib.OthersKept.refl _ _ W).setCell ⟨b, 0, none⟩ rfl _⟩⟩
  · exact (wcheck_used b W (cell_of h1 0)).mono fun e w' ⟨he, hw⟩ => ⟨he, ⟨v, hw ▸ ⟨h.le, h.sz, h1, h3, h4, h5⟩⟩, hw ▸ Wrt.refl B b W⟩

set_option maxHeartbeats 4000000 in
set_option maxRecDepth 100000 in
theorem wbyte {B b : Nat} {x : Ws} {W : World} (h : WrAt B b x W) (c : UInt8) (hlen : x.l.length + 1 ≤ 140737488355328) :
    Calls Try.prog 41 #[.pointer (some ⟨b, 0, none⟩), .int .u8 (c.toNat : Int)] W fun e W' => e = .returned .nilIface ∧ WrAt B b ⟨x.l ++ [c], x.b⟩ W' ∧ Wrt B b W W' := by
  obtain ⟨i0, hi, hz0, hz1, hz2⟩ := info_parts infoByte5
  have hl : (Lib.byteCells x.l).length = x.l.length := Lib.byteCells_length x.l
  have hsz := h.sz
  have HCk := hidW (wcheck h)
  clear h
  go_enter Try.func41, Try.ntmps41
  go_wp2_with fail
  refine HCk.out.mono ?_
  rintro e w1 ⟨rfl, ⟨v, h1⟩, hw1⟩
  have c0 := cell_of h1.box 0
  have c1 := cell_of h1.box 1
  simp only [List.getElem?_toArray, List.getElem?_cons_zero, List.getElem?_cons_succ] at c0 c1
  have hown := h1.own
  have hbk := h1.box
  have hne := h1.ne
  have hB := h1.le
  have hsz1 := h1.sz
  clear h1 HCk
  go_wp2_with (at_builtin; refine wpList_append_ownF _ rfl _ _ 44 rfl B 5 i0 (.int .u8 0) 1 1 Try.underlying44 hi hz0 hz1 hz2 rfl (by decide) _ _ _ rfl (hown.alloc _) ⟨w1.heap.size, 0, none⟩ 1 1 [.int .u8 (c.toNat : Int)] rfl rfl ?c1 ?c2 ?c3 ?c4 ?c5 ?_)
  case c1 =>
    intro j u hj
    match j, hj with
    | 0, hj => simp at hj; subst hj; simp [Addr.add]
  case c2 => intro u hu; simp at hu; subst hu; rfl
  case c3 => unfold maxLen; omega
  case c4 => omega
  case c5 => simp; omega
  intro v' w2 hown' hgrow _
  have hlt : b < w1.heap.size := lt_of hbk
  have hb2 : w2.heap[b]? = some (.cells #[.pointer (some ⟨b, 0, none⟩), v, .bool x.b] 48 (0, 0)) := by
    rw [hgrow.block b (by simp; omega) (fun e => hne e.symm), Lib.alloc_old w1 _ b hlt]
    exact hbk
  have d0 := cell_of hb2 0
  have d1 := cell_of hb2 1
  have f1 := frozen_of hb2 1
  simp only [List.getElem?_toArray, List.getElem?_cons_zero, List.getElem?_cons_succ] at d0 d1
  obtain ⟨g, cap, rfl⟩ : ∃ g cap, v' = .slice (some ⟨g, 0, none⟩) (x.l.length + 1) cap := by
    rcases hown'.2 with ⟨_, h0⟩ | ⟨g, cap, cur, fz, hv, _⟩
    · omega
    · exact ⟨g, cap, hv⟩
  have hgb : (Value.slice (some ⟨g, 0, none⟩) (x.l.length + 1) cap).ownBlock ≠ some b := by
    intro e
    obtain ⟨cc, fz, hc⟩ := owned_kind hown' b e
    rw [hb2] at hc
    cases hc
  have HW := hidW (show WrAt B b ⟨x.l ++ [c], x.b⟩ (w2.setCell ⟨b, 1, none⟩ (.slice (some ⟨g, 0, none⟩) (x.l.length + 1) cap)) ∧ Wrt B b W (w2.setCell ⟨b, 1, none⟩ (.slice (some ⟨g, 0, none⟩) (x.l.length + 1) cap)) from by
    refine ⟨⟨hB, by rw [size_set]; have := hgrow.size; simp at this; omega, _, _, heap_set_same' hb2 1 _, .inr rfl, ?_, hgb, fun e => by simp at e⟩, hw1.trans ⟨?_, ?_⟩⟩
    · have e1 : Lib.byteCells (x.l ++ [c]) = Lib.byteCells x.l ++ [.int .u8 (c.toNat : Int)] := by simp [Lib.byteCells]
      have e2 : (x.l ++ [c]).length = x.l.length + 1 := by simp
      show World.ownsRowF _ B 5 1 _ (x.l ++ [c]).length (Lib.byteCells (x.l ++ [c]))
      rw [e1, e2]
      exact ownF_set hown' hgb
    · exact (((Below.refl B w1).alloc hsz1 _).grown hgrow (by simp; omega) (fun k hk => (hown.lt k hk).1)).setCell (p := ⟨b, 1, none⟩) hB _
    · exact (((Lib.OthersKept.refl 5 (some b) w1).alloc _).grown hgrow (Lib.ownsRowF_kind (hown.alloc _))).setCell ⟨b, 1, none⟩ rfl _)
  clear hown hown' hgrow hbk hb2 hgb hne hw1
  go_wp2
  go_ret
  exact ⟨rfl, HW.out.1, HW.out.2⟩

set_option maxHeartbeats 4000000 in
set_option maxRecDepth 100000 in
theorem wstring {B b : Nat} {x : Ws} {W : World} (h : WrAt B b x W) (p : List UInt8) (hp : p ≠ []) (hlen : x.l.length + p.length ≤ 140737488355328) :
    Calls Try.prog 42 #[.pointer (some ⟨b, 0, none⟩), .string (bs p)] W fun e W' => e = .returned (.tuple #[.int .i64 (p.length : Int), .nilIface]) ∧ WrAt B b ⟨x.l ++ p, x.b⟩ W' ∧ Wrt B b W W' := by
  obtain ⟨i0, hi, hz0, hz1, hz2⟩ := info_parts infoByte5
  have hl : (Lib.byteCells x.l).length = x.l.length := Lib.byteCells_length x.l
  have hps : (bs p).size = p.length := bs_size p
  have hpl : 0 < p.length := List.length_pos_iff.2 hp
  have hsz := h.sz
  have HCk := hidW (wcheck h)
  clear h
  go_enter Try.func42, Try.ntmps42
  go_wp2_with fail
  refine HCk.out.mono ?_
  rintro e w1 ⟨rfl, ⟨v, h1⟩, hw1⟩
  have c0 := cell_of h1.box 0
  have c1 := cell_of h1.box 1
  simp only [List.getElem?_toArray, List.getElem?_cons_zero, List.getElem?_cons_succ] at c0 c1
  have hown := h1.own
  have hbk := h1.box
  have hne := h1.ne
  have hB := h1.le
  have hsz1 := h1.sz
  clear h1 HCk
  go_wp2_with (at_builtin; refine Lib.wpList_append_own_stringF _ rfl _ _ 44 9 rfl B 5 i0 Try.underlying44 Try.underlying9 hi hz0 hz1 hz2 _ _ _ rfl hown (bs p) rfl ?c3 ?c4 ?c5 ?_)
  case c3 => unfold maxLen; omega
  case c4 => omega
  case c5 => omega
  intro v' w2 hown' hgrow _
  have hlt : b < w1.heap.size := lt_of hbk
  have hb2 : w2.heap[b]? = some (.cells #[.pointer (some ⟨b, 0, none⟩), v, .bool x.b] 48 (0, 0)) := by
    rw [hgrow.block b hlt (fun e => hne e.symm)]
    exact hbk
  have d0 := cell_of hb2 0
  have d1 := cell_of hb2 1
  have f1 := frozen_of hb2 1
  simp only [List.getElem?_toArray, List.getElem?_cons_zero, List.getElem?_cons_succ] at d0 d1
  obtain ⟨g, cap, rfl⟩ : ∃ g cap, v' = .slice (some ⟨g, 0, none⟩) (x.l.length + p.length) cap := by
    rcases hown'.2 with ⟨_, h0⟩ | ⟨g, cap, cur, fz, hv, _⟩
    · omega
    · exact ⟨g, cap, hv⟩
  have hgb : (Value.slice (some ⟨g, 0, none⟩) (x.l.length + p.length) cap).ownBlock ≠ some b := by
    intro e
    obtain ⟨cc, fz, hc⟩ := owned_kind hown' b e
    rw [hb2] at hc
    cases hc
  have HW := hidW (show WrAt B b ⟨x.l ++ p, x.b⟩ (w2.setCell ⟨b, 1, none⟩ (.slice (some ⟨g, 0, none⟩) (x.l.length + p.length) cap)) ∧ Wrt B b W (w2.setCell ⟨b, 1, none⟩ (.slice (some ⟨g, 0, none⟩) (x.l.length + p.length) cap)) from by
    refine ⟨⟨hB, by rw [size_set]; have := hgrow.size; omega, _, _, heap_set_same' hb2 1 _, .inr rfl, ?_, hgb, fun e => absurd (List.append_eq_nil_iff.1 e).2 hp⟩, hw1.trans ⟨?_, ?_⟩⟩
    · have e1 : Lib.byteCells (x.l ++ p) = Lib.byteCells x.l ++ Lib.strCells (bs p) := by simp [Lib.byteCells, Lib.strCells, bs]
      show World.ownsRowF _ B 5 1 _ (x.l ++ p).length (Lib.byteCells (x.l ++ p))
      rw [e1, List.length_append]
      exact ownF_set hown' hgb
    · exact ((Below.refl B w1).grown hgrow hsz1 (fun k hk => (hown.lt k hk).1)).setCell (p := ⟨b, 1, none⟩) hB _
    · exact ((Lib.OthersKept.refl 5 (some b) w1).grown hgrow (Lib.ownsRowF_kind hown)).setCell ⟨b, 1, none⟩ rfl _)
  clear hown hown' hgrow hbk hb2 hgb hne hw1
  go_wp2
  go_ret2
  exact ⟨rfl, HW.out.1, HW.out.2⟩

set_option maxRecDepth 100000 in
theorem wlen {B b : Nat} {x : Ws} {W : World} (h : WrAt B b x W) :
    Calls Try.prog 64 #[.pointer (some ⟨b, 0, none⟩)] W fun e W' => e = .returned (.int .i64 (x.l.length : Int)) ∧ W' = W := by
  obtain ⟨p, v, h1, h2, h3, h4, h5⟩ := h.box
  obtain ⟨av, cap, rfl⟩ : ∃ av cap, v = .slice av x.l.length cap := by
    rcases h3.2 with ⟨e, h0⟩ | ⟨g, cap, cur, fz, hv, _⟩
    · exact ⟨none, 0, by rw [e, h0]⟩
    · exact ⟨_, cap, hv⟩
  have c1 := cell_of h1 1
  simp only [List.getElem?_toArray, List.getElem?_cons_zero, List.getElem?_cons_succ] at c1
  clear h h1 h2 h3 h4 h5
  go_enter Try.func64, Try.ntmps64
  go_wp2
  go_ret
  exact ⟨rfl, rfl⟩

end Go.Proofs.Ytgndnodahlabiaa

/- A writer (layer 10): the contract of put. -/
namespace Go.Proofs.Ytgndnodahlabiaa
open Go.ChangeShapes Go.WideShapes Go.ChangeAt Go.RowKit

theorem WrAt.cell2 {B b : Nat} {x : Ws} {W : World} (h : WrAt B b x W) : W.cell? ⟨b, 2, none⟩ = some (.bool x.b) ∧ W.frozen? ⟨b, 2, none⟩ = false := by
  obtain ⟨p, v, h1, _⟩ := h.box
  exact ⟨cell_of h1 2, frozen_of h1 2⟩
theorem WrAt.blank {B b : Nat} {x : Ws} {W : World} (h : WrAt B b x W) (c : Bool) : WrAt B b ⟨x.l, c⟩ (W.setCell ⟨b, 2, none⟩ (.bool c)) ∧ Wrt B b W (W.setCell ⟨b, 2, none⟩ (.bool c)) := by
  obtain ⟨p, v, h1, h2, h3, h4, h5⟩ := h.box
  exact ⟨⟨h.le, by rw [size_set]; exact h.sz, p, v, heap_set_same' h1 2 _, h2, ownF_set h3 h4, h4, h5⟩, (Below.refl B W).setCell (p := ⟨b, 2, none⟩) h.le _, (Lib.OthersKept.refl _ _ W).setCell ⟨b, 2, none⟩ rfl _⟩
/-- How much room these want. -/
def room (ps : List (List UInt8)) : Nat := (ps.map fun p => p.length + 1).sum
theorem room_cons (p : List UInt8) (r : List (List UInt8)) : room (p :: r) = p.length + 1 + room r := by simp [room]
theorem room_append (l m : List (List UInt8)) : room (l ++ m) = room l + room m := by simp [room]
theorem appL_len : ∀ (ps : List (List UInt8)) (x : Ws), (appL ps x).l.length ≤ x.l.length + room ps
  | [], x => by simp [appL, room]
  | p :: r, x => by
    rw [appL_cons, room_cons]
    have := appL_len r (app1 p x)
    have := app_len p x
    omega

set_option maxRecDepth 100000 in
set_option maxHeartbeats 8000000 in
theorem put_is {B b g : Nat} {x : Ws} {W : World} (h : WrAt B b x W) (ps : List (List UInt8)) (hg : W.heap[g]? = some (.cells (ps.map fun p => Value.string (bs p)).toArray 9 (0, 0))) (hgb : g ≠ b) (hps : ps.length ≤ 100) (hlen : x.l.length + room ps ≤ 140737488355328) :
    Calls Try.prog 31 #[.pointer (some ⟨b, 0, none⟩), .slice (some ⟨g, 0, none⟩) ps.length ps.length] W fun e W' => e = .returned (.pointer (some ⟨b, 0, none⟩)) ∧ WrAt B b (appL ps x) W' ∧ Wrt B b W W' := by
  generalize hRR : appL ps x = R
  have H0 := hidW (And.intro h (And.intro hRR hlen))
  have HG := hidW hg
  clear h hRR hg hlen
  generalize hn : ps.length = n at *
  have HN := hidW hn
  clear hn
  go_enter Try.func31, Try.ntmps31
  go_wp2_with fail
  go_loopw [9] (fun i wr => ∃ (j : Nat) (y : Ws), i = .int .i64 (j : Int) ∧ j ≤ n ∧ WrAt B b y wr ∧ appL (ps.drop j) y = R ∧ y.l.length + room (ps.drop j) ≤ 140737488355328 ∧ Wrt B b W wr) (fun i _ => n - (intOf i).toNat)
  case atStart => exact ⟨0, x, rfl, Nat.zero_le _, H0.out.1, H0.out.2.1, H0.out.2.2, Wrt.refl _ _ _⟩
  case round =>
    obtain ⟨j, y, rfl, hj, hy, hR, hl, hw⟩ := hrel
    by_cases h1 : j < n
    · have hjk : j < ps.length := by have := HN.out; omega
      have e1 : ((j : Int) < (n : Int)) = True := eq_true (by omega)
      have hk := hw.kept HG.out (by decide) hgb
      obtain ⟨p, hp⟩ : ∃ p, ps[j]'hjk = p := ⟨_, rfl⟩
      have c0 := cell_of hk j
      rw [List.getElem?_toArray, List.getElem?_map, List.getElem?_eq_getElem hjk, hp] at c0
      simp only [Option.map_some] at c0
      rw [List.drop_eq_getElem_cons hjk, hp, appL_cons] at hR
      rw [List.drop_eq_getElem_cons hjk, hp, room_cons] at hl
      have eb := bs_toList p
      have HY := hidW (And.intro hy (And.intro hw (And.intro hR hl)))
      obtain ⟨z0, z1⟩ := hy.cell2
      clear hk hp hR hl hy hw
      by_cases hpn : p = []
      · have ep : (p == []) = true := by simp [hpn]
        have HP := hidW hpn
        clear hpn z0 z1
        go_wp2_with fail
        go_roundw
        case rel =>
          obtain ⟨hy, hw, hR, hl⟩ := HY.out
          have hP := HP.out
          subst hP
          rw [app_nil] at hR
          exact ⟨j + 1, y, by go_num, by omega, hy, hR, by omega, hw⟩
        case measure => simp [intOf]; omega
      · have ep : (p == []) = false := by simp [hpn]
        have hpl : 0 < p.length := List.length_pos_iff.2 hpn
        cases hyb : y.b with
        | true =>
          rw [hyb] at z0
          have hB := hidW (wbyte HY.out.1 32 (by have := HY.out.2.2.2; omega))
          have HB := hidW hyb
          have HP := hidW hpn
          clear hyb hpn z1
          go_wp2_with fail
          refine hB.out.mono ?_; clear hB; rintro e W2 ⟨rfl, hy2, hw2⟩
          have hS := hidW (wstring hy2 p HP.out (by have := HY.out.2.2.2; simp; omega))
          have HW2 := hidW hw2
          clear hy2 hw2
          go_wp2_with fail
          refine hS.out.mono ?_; clear hS; rintro e W3 ⟨rfl, hy3, hw3⟩
          obtain ⟨x0, x1⟩ := hy3.cell2
          simp only at x0
          have HZ := hidW (And.intro (hy3.blank true) hw3)
          clear hy3 hw3
          go_wp2_with fail
          go_roundw
          case rel =>
            obtain ⟨hy, hw, hR, hl⟩ := HY.out
            refine ⟨j + 1, app1 p y, by go_num, by omega, ?_, hR, ?_, hw.trans (HW2.out.trans (HZ.out.2.trans HZ.out.1.2))⟩
            · have h1 := HZ.out.1.1
              unfold app1
              rw [if_neg HP.out, if_pos HB.out]
              exact h1
            · have := app_len p y; omega
          case measure => simp [intOf]; omega
        | false =>
          rw [hyb] at z0
          have hS := hidW (wstring HY.out.1 p hpn (by have := HY.out.2.2.2; omega))
          have HB := hidW hyb
          have HP := hidW hpn
          clear hyb hpn z1
          go_wp2_with fail
          refine hS.out.mono ?_; clear hS; rintro e W3 ⟨rfl, hy3, hw3⟩
          obtain ⟨x0, x1⟩ := hy3.cell2
          simp only at x0
          have HZ := hidW (And.intro (hy3.blank true) hw3)
          clear hy3 hw3
          go_wp2_with fail
          go_roundw
          case rel =>
            obtain ⟨hy, hw, hR, hl⟩ := HY.out
            refine ⟨j + 1, app1 p y, by go_num, by omega, ?_, hR, ?_, hw.trans (HZ.out.2.trans HZ.out.1.2)⟩
            · have h1 := HZ.out.1.1
              unfold app1
              rw [if_neg HP.out, if_neg (by rw [HB.out]; simp), List.append_nil]
              exact h1
            · have := app_len p y; omega
          case measure => simp [intOf]; omega
    · have e1 : ((j : Int) < (n : Int)) = False := by simp; omega
      have hyR : y = R := by rw [← hR, List.drop_eq_nil_of_le (by have := HN.out; omega)]; rfl
      have HF := hidW (And.intro hy (And.intro hw hyR))
      clear hy hw hR hl hyR
      go_wp2
      go_ret
      exact ⟨rfl, HF.out.2.2 ▸ HF.out.1, HF.out.2.1⟩

end Go.Proofs.Ytgndnodahlabiaa

/- A writer (layer 10): the contracts of nodes, list and lines, of rows of trees that are not too great. -/
namespace Go.Proofs.Ytgndnodahlabiaa
open Go.ChangeShapes Go.WideShapes Go.ChangeAt Go.RowKit

mutual
/-- How much room a tree's text wants while it is written. -/
def ned : Nd → Nat
  | .mk _ t _ ks => t.length + 60 + nedL ks
def nedL : List Nd → Nat
  | [] => 0
  | n :: r => ned n + 4 + nedL r
end
theorem nedL_append : ∀ l m, nedL (l ++ m) = nedL l + nedL m
  | [], m => by simp [nedL]
  | n :: r, m => by rw [List.cons_append, nedL, nedL, nedL_append r m]; omega
theorem inter_room : ∀ (l : List (List UInt8)), room (inter l) ≤ (l.map fun p => p.length + 3).sum
  | [] => by simp [inter, room]
  | p :: r => by
    rw [inter_cons, room_cons]
    have : ∀ q : List (List UInt8), room (q.flatMap fun s => [[44], s]) ≤ (q.map fun p => p.length + 3).sum := by
      intro q
      induction q with
      | nil => simp [room]
      | cons s q ih => rw [List.flatMap_cons, room_append, List.map_cons, List.sum_cons]; simp only [room_cons]; simp [room] at ih ⊢; omega
    have := this r
    simp only [List.map_cons, List.sum_cons]
    omega
theorem wcat_room : ∀ (l : List (List UInt8)), (wcat l).length ≤ room l
  | [] => by simp [wcat, room]
  | p :: r => by
    rw [wcat, room_cons]
    have := wth_len p (wcat r)
    have := wcat_room r
    omega
def tot (l : List (List UInt8)) : Nat := (l.map fun p => p.length + 3).sum
theorem tot_cons (p : List UInt8) (r : List (List UInt8)) : tot (p :: r) = p.length + 3 + tot r := by simp [tot]
theorem tot_append (l m : List (List UInt8)) : tot (l ++ m) = tot l + tot m := by simp [tot]
theorem tot_three : ∀ (l : List (List UInt8)), (l.getD 0 []).length + (l.getD 1 []).length + (l.getD 2 []).length ≤ tot l
  | [] => by simp
  | [p] => by simp [tot]; try omega
  | [p, q] => by simp [tot]; try omega
  | p :: q :: s :: r => by simp [tot]; omega
theorem room_tot : ∀ (l : List (List UInt8)), room l ≤ tot l
  | [] => by simp [room, tot]
  | p :: r => by rw [room_cons, tot_cons]; have := room_tot r; omega
theorem take_tot (l : List (List UInt8)) (n : Nat) : tot (l.take n) + tot (l.drop n) = tot l := by
  rw [← tot_append, List.take_append_drop]
theorem flat_tot : ∀ (l : List (List UInt8)), (l.flatMap fun s => s ++ [10]).length ≤ tot l
  | [] => by simp
  | p :: r => by rw [List.flatMap_cons, tot_cons, List.length_append, List.length_append, List.length_singleton]; have := flat_tot r; omega
theorem rowP_2 (t : List UInt8) (l : List (List UInt8)) : rowP 2 t l = [[102, 117, 110, 99], t, [40]] ++ inter (l.take (l.length - 2)) ++ [[41]] ++ l.drop (l.length - 2) := rfl
theorem rowP_3 (t : List UInt8) (l : List (List UInt8)) : rowP 3 t l = [t, l.getD 0 []] := rfl
theorem rowP_4 (t : List UInt8) (l : List (List UInt8)) : rowP 4 t l = [] := rfl
theorem rowP_5 (t : List UInt8) (l : List (List UInt8)) : rowP 5 t l = [[105, 110, 116]] := rfl
theorem rowP_6 (t : List UInt8) (l : List (List UInt8)) : rowP 6 t l = [[42], l.getD 0 []] := rfl
theorem rowP_7 (t : List UInt8) (l : List (List UInt8)) : rowP 7 t l = [[91], t, [93], l.getD 0 []] := rfl
theorem rowP_8 (t : List UInt8) (l : List (List UInt8)) : rowP 8 t l = [[40]] ++ inter l ++ [[41]] := rfl
theorem rowP_9 (t : List UInt8) (l : List (List UInt8)) : rowP 9 t l = [[123]] ++ l ++ [[125]] := rfl
theorem rowP_10 (t : List UInt8) (l : List (List UInt8)) : rowP 10 t l = [[118, 97, 114], t, l.getD 0 [], [59]] := rfl
theorem rowP_11 (t : List UInt8) (l : List (List UInt8)) : rowP 11 t l = [l.getD 0 [], [61], l.getD 1 [], [59]] := rfl
theorem rowP_12 (t : List UInt8) (l : List (List UInt8)) : rowP 12 t l = [[105, 102], l.getD 0 [], l.getD 1 []] ++ (if 2 < l.length then [[101, 108, 115, 101], l.getD 2 []] else []) := rfl
theorem rowP_13 (t : List UInt8) (l : List (List UInt8)) : rowP 13 t l = [[102, 111, 114], l.getD 0 [], l.getD 1 []] := rfl
theorem rowP_14 (t : List UInt8) (l : List (List UInt8)) : rowP 14 t l = [[114, 101, 116, 117, 114, 110]] ++ l.take 1 ++ [[59]] := rfl
theorem rowP_15 (t : List UInt8) (l : List (List UInt8)) : rowP 15 t l = [[112, 114, 105, 110, 116], l.getD 0 [], [59]] := rfl
theorem rowP_16 (t : List UInt8) (l : List (List UInt8)) : rowP 16 t l = [l.getD 0 [], [59]] := rfl
theorem rowP_17 (t : List UInt8) (l : List (List UInt8)) : rowP 17 t l = [t] := rfl
theorem rowP_18 (t : List UInt8) (l : List (List UInt8)) : rowP 18 t l = [t] := rfl
theorem rowP_19 (t : List UInt8) (l : List (List UInt8)) : rowP 19 t l = [[40], l.getD 0 [], t, l.getD 1 [], [41]] := rfl
theorem rowP_20 (t : List UInt8) (l : List (List UInt8)) : rowP 20 t l = [[40], [45], l.getD 0 [], [41]] := rfl
theorem rowP_21 (t : List UInt8) (l : List (List UInt8)) : rowP 21 t l = [[40], [42], l.getD 0 [], [41]] := rfl
theorem rowP_22 (t : List UInt8) (l : List (List UInt8)) : rowP 22 t l = [[40], [38], l.getD 0 [], [41]] := rfl
theorem rowP_23 (t : List UInt8) (l : List (List UInt8)) : rowP 23 t l = [l.getD 0 [], [91], l.getD 1 [], [93]] := rfl
theorem rowP_24 (t : List UInt8) (l : List (List UInt8)) : rowP 24 t l = [l.getD 0 [], [46], t] := rfl
theorem rowP_25 (t : List UInt8) (l : List (List UInt8)) : rowP 25 t l = [t, [40]] ++ inter l ++ [[41]] := rfl
theorem rowP_26 (t : List UInt8) (l : List (List UInt8)) : rowP 26 t l = [[110, 101, 119], [40], l.getD 0 [], [41]] := rfl
theorem rowP_27 (t : List UInt8) (l : List (List UInt8)) : rowP 27 t l = [[114, 101, 97, 100]] := rfl
theorem room_nil : room [] = 0 := rfl
theorem row_room (k : Int) (t : List UInt8) (l : List (List UInt8)) : room (rowP k t l) ≤ t.length + 50 + tot l := by
  have h3 := tot_three l
  have hi : ∀ q, room (inter q) ≤ tot q := inter_room
  have h1 := hi l
  have h2 := hi (l.take (l.length - 2))
  have h4 := take_tot l (l.length - 2)
  have h5 := room_tot (l.drop (l.length - 2))
  have h6 := room_tot l
  have h7 := take_tot l 1
  have h8 := room_tot (l.take 1)
  by_cases c2 : k = 2
  · subst c2; rw [rowP_2]; simp only [room_append, room_cons, room_nil, List.length_cons, List.length_nil]; omega
  by_cases c3 : k = 3
  · subst c3; rw [rowP_3]; simp only [room_cons, room_nil]; omega
  by_cases c4 : k = 4
  · subst c4; rw [rowP_4]; rw [room_nil]; omega
  by_cases c5 : k = 5
  · subst c5; rw [rowP_5]; simp only [room_cons, room_nil, List.length_cons, List.length_nil]; omega
  by_cases c6 : k = 6
  · subst c6; rw [rowP_6]; simp only [room_cons, room_nil, List.length_cons, List.length_nil]; omega
  by_cases c7 : k = 7
  · subst c7; rw [rowP_7]; simp only [room_cons, room_nil, List.length_cons, List.length_nil]; omega
  by_cases c8 : k = 8
  · subst c8; rw [rowP_8]; simp only [room_append, room_cons, room_nil, List.length_cons, List.length_nil]; omega
  by_cases c9 : k = 9
  · subst c9; rw [rowP_9]; simp only [room_append, room_cons, room_nil, List.length_cons, List.length_nil]; omega
  by_cases c10 : k = 10
  · subst c10; rw [rowP_10]; simp only [room_cons, room_nil, List.length_cons, List.length_nil]; omega
  by_cases c11 : k = 11
  · subst c11; rw [rowP_11]; simp only [room_cons, room_nil, List.length_cons, List.length_nil]; omega
  by_cases c12 : k = 12
  · subst c12; rw [rowP_12]; split <;> simp only [List.append_nil, List.cons_append, List.nil_append, room_cons, room_nil, List.length_cons, List.length_nil] <;> omega
  by_cases c13 : k = 13
  · subst c13; rw [rowP_13]; simp only [room_cons, room_nil, List.length_cons, List.length_nil]; omega
  by_cases c14 : k = 14
  · subst c14; rw [rowP_14]; simp only [room_append, room_cons, room_nil, List.length_cons, List.length_nil]; omega
  by_cases c15 : k = 15
  · subst c15; rw [rowP_15]; simp only [room_cons, room_nil, List.length_cons, List.length_nil]; omega
  by_cases c16 : k = 16
  · subst c16; rw [rowP_16]; simp only [room_cons, room_nil, List.length_cons, List.length_nil]; omega
  by_cases c17 : k = 17
  · subst c17; rw [rowP_17]; simp only [room_cons, room_nil]; omega
  by_cases c18 : k = 18
  · subst c18; rw [rowP_18]; simp only [room_cons, room_nil]; omega
  by_cases c19 : k = 19
  · subst c19; rw [rowP_19]; simp only [room_cons, room_nil, List.length_cons, List.length_nil]; omega
  by_cases c20 : k = 20
  · subst c20; rw [rowP_20]; simp only [room_cons, room_nil, List.length_cons, List.length_nil]; omega
  by_cases c21 : k = 21
  · subst c21; rw [rowP_21]; simp only [room_cons, room_nil, List.length_cons, List.length_nil]; omega
  by_cases c22 : k = 22
  · subst c22; rw [rowP_22]; simp only [room_cons, room_nil, List.length_cons, List.length_nil]; omega
  by_cases c23 : k = 23
  · subst c23; rw [rowP_23]; simp only [room_cons, room_nil, List.length_cons, List.length_nil]; omega
  by_cases c24 : k = 24
  · subst c24; rw [rowP_24]; simp only [room_cons, room_nil, List.length_cons, List.length_nil]; omega
  by_cases c25 : k = 25
  · subst c25; rw [rowP_25]; simp only [room_append, room_cons, room_nil, List.length_cons, List.length_nil]; omega
  by_cases c26 : k = 26
  · subst c26; rw [rowP_26]; simp only [room_cons, room_nil, List.length_cons, List.length_nil]; omega
  by_cases c27 : k = 27
  · subst c27; rw [rowP_27]; simp only [room_cons, room_nil, List.length_cons, List.length_nil]; omega
  have : rowP k t l = [] := by unfold rowP; simp [c2, c3, c4, c5, c6, c7, c8, c9, c10, c11, c12, c13, c14, c15, c16, c17, c18, c19, c20, c21, c22, c23, c24, c25, c26, c27]
  rw [this, room_nil]; omega
mutual
theorem txt_ned : ∀ n : Nd, (txt n).length ≤ ned n
  | .mk k t _ ks => by
    rw [txt, ned]
    have h1 := txtL_ned ks
    unfold nodeT
    split
    · simp; omega
    · split
      · simp; omega
      · split
        · have := flat_tot (txtL ks); omega
        · have := wcat_room (rowP k t (txtL ks)); have := row_room k t (txtL ks); omega
theorem txtL_ned : ∀ l : List Nd, tot (txtL l) ≤ nedL l
  | [] => by simp [txtL, nedL, tot]
  | n :: r => by
    rw [txtL, nedL, tot_cons]
    have := txt_ned n
    have := txtL_ned r
    omega
end

/-- A row of trees below B, and what they are. -/
structure RowB (B : Nat) (W : World) (av : Option Addr) (blk off : Nat) (ks : List Nv) : Prop where
  row : RowD (fun b => b < B) W av blk off ks
  kid : ∀ n, n ∈ ks → LiesD (fun b => b < B) W n
  bnd : ∀ n, n ∈ ks → n.nd.bnd
  len : ks.length < 2 ^ 62
theorem Wrt.turns {B b : Nat} {W W' : World} (h : Wrt B b W W') : Turns (fun c => B ≤ c) W W' := Turns.of_below h.below
theorem RowB.step {B b : Nat} {W W' : World} {av : Option Addr} {blk off : Nat} {ks : List Nv} (h : RowB B W av blk off ks) (hr : Wrt B b W W') : RowB B W' av blk off ks :=
  ⟨h.row.turns hr.turns (fun _ hc _ => Nat.not_le.2 hc), fun n hn => (h.kid n hn).turns hr.turns (fun _ hc _ => Nat.not_le.2 hc), h.bnd, h.len⟩
/-- What node owes of trees up to a size. -/
def NodeTo (B b z : Nat) : Prop := ∀ (n : Nv), n.nd.sz ≤ z → ∀ (W : World) (x : Ws), WrAt B b x W → LiesD (fun c => c < B) W n → n.nd.bnd → x.l.length + ned n.nd ≤ 140737488355328 →
    Calls Try.prog 20 #[.pointer (some ⟨b, 0, none⟩), n.val] W fun e W' => e = .returned (.pointer (some ⟨b, 0, none⟩)) ∧ WrAt B b (app1 (txt n.nd) x) W' ∧ Wrt B b W W'
theorem szL_mem' {ks : List Nv} {n : Nv} (h : n ∈ ks) : n.nd.sz ≤ szL (ndL ks) := sz_mem (by rw [ndL_map]; exact List.mem_map_of_mem h)
theorem nedL_drop (ks : List Nv) (j : Nat) (h : j < ks.length) : nedL (ndL (ks.drop j)) = ned (ks[j]'h).nd + 4 + nedL (ndL (ks.drop (j + 1))) := by rw [ndL_drop ks j h, nedL]

set_option maxRecDepth 100000 in
set_option maxHeartbeats 8000000 in
theorem nodes_is {B b z : Nat} (IH0 : NodeTo B b z) {x : Ws} {W : World} (h : WrAt B b x W) {av : Option Addr} {cap blk off : Nat} {ks : List Nv} (hr : RowB B W av blk off ks) (hz : szL (ndL ks) ≤ z) (hlen : x.l.length + nedL (ndL ks) ≤ 140737488355328) :
    Calls Try.prog 45 #[.pointer (some ⟨b, 0, none⟩), .slice av ks.length cap] W fun e W' => e = .returned (.pointer (some ⟨b, 0, none⟩)) ∧ WrAt B b (appL (txtL (ndL ks)) x) W' ∧ Wrt B b W W' := by
  have hln := hr.len
  generalize hRR : appL (txtL (ndL ks)) x = R
  have H0 := hidW (And.intro h (And.intro hr (And.intro hRR hlen)))
  have IH := hidW IH0
  clear h hRR hr hlen IH0
  generalize hn : ks.length = n at *
  have HN := hidW hn
  clear hn
  go_enter Try.func45, Try.ntmps45
  go_wp2_with fail
  go_loopw [9] (fun i wr => ∃ (j : Nat) (y : Ws), i = .int .i64 (j : Int) ∧ j ≤ n ∧ WrAt B b y wr ∧ appL (txtL (ndL (ks.drop j))) y = R ∧ y.l.length + nedL (ndL (ks.drop j)) ≤ 140737488355328 ∧ Wrt B b W wr) (fun i _ => n - (intOf i).toNat)
  case atStart => exact ⟨0, x, rfl, Nat.zero_le _, H0.out.1, H0.out.2.2.1, H0.out.2.2.2, Wrt.refl _ _ _⟩
  case round =>
    obtain ⟨j, y, rfl, hj, hy, hR, hl, hw⟩ := hrel
    by_cases h1 : j < n
    · have hjk : j < ks.length := by have := HN.out; omega
      have e1 : ((j : Int) < (n : Int)) = True := eq_true (by omega)
      have hrw := H0.out.2.1.step hw
      obtain ⟨q, hq⟩ : ∃ q, ks[j]'hjk = q := ⟨_, rfl⟩
      have hqm : q ∈ ks := hq ▸ List.getElem_mem hjk
      rw [nedL_drop ks j hjk, hq] at hl
      rw [ndL_drop ks j hjk, hq, txtL, appL_cons] at hR
      have hqz := szL_mem' hqm
      obtain rfl := hrw.row.at_ (by omega)
      obtain ⟨qk, qt, qa, qav, qcap, qblk, qoff, qks⟩ := q
      obtain ⟨k0, k1, k2, k3⟩ := hrw.row.kid hjk hq
      have hwa := Wrt.alloc (b := b) hy.sz (.cells #[.int .i64 qk, .string (bs qt), .int .i64 qa, .slice qav qks.length qcap] 24)
      have hC := hidW (IH.out (.mk qk qt qa qav qcap qblk qoff qks) (by omega) _ y (hy.alloc (.cells #[.int .i64 qk, .string (bs qt), .int .i64 qa, .slice qav qks.length qcap] 24)) ((hrw.kid _ hqm).turns hwa.turns (fun _ hc _ => Nat.not_le.2 hc)) (hrw.bnd _ hqm) (by omega))
      have htl := txt_ned (Nv.mk qk qt qa qav qcap qblk qoff qks).nd
      have hal := app_len (txt (Nv.mk qk qt qa qav qcap qblk qoff qks).nd) y
      have HY := hidW (And.intro (hw.trans hwa) (And.intro hR (show (app1 (txt (Nv.mk qk qt qa qav qcap qblk qoff qks).nd) y).l.length + nedL (ndL (ks.drop (j + 1))) ≤ 140737488355328 by omega)))
      clear hrw hq hqm hR hl hy hw hwa htl hal hqz
      go_wp2_with fail
      refine hC.out.mono ?_; clear hC; rintro e W2 ⟨rfl, hy2, hw2⟩
      have HZ := hidW (And.intro hy2 hw2)
      clear hy2 hw2
      go_wp2_with fail
      go_roundw
      case rel => exact ⟨j + 1, _, by go_num, by omega, HZ.out.1, HY.out.2.1, HY.out.2.2, HY.out.1.trans HZ.out.2⟩
      case measure => simp [intOf]; omega
    · have e1 : ((j : Int) < (n : Int)) = False := by simp; omega
      have hyR : y = R := by rw [← hR, List.drop_eq_nil_of_le (by have := HN.out; omega), ndL, txtL]; rfl
      have HF := hidW (And.intro hy (And.intro hw hyR))
      clear hy hw hR hl hyR
      go_wp2
      go_ret
      exact ⟨rfl, HF.out.2.2 ▸ HF.out.1, HF.out.2.1⟩

end Go.Proofs.Ytgndnodahlabiaa

/- The laws' small case (layer 10), in plain words. -/
namespace Go.Proofs.Ytgndnodahlabiaa

def smT : List UInt8 := [102, 117, 110, 99, 32, 102, 40, 97, 32, 105, 110, 116, 41, 32, 123, 32, 112, 114, 105, 110, 116, 32, 49, 32, 43, 32, 50, 32, 42, 32, 97, 59, 32, 125]
def smX : List UInt8 := [102, 117, 110, 99, 32, 102, 32, 40, 32, 97, 32, 105, 110, 116, 32, 41, 32, 123, 32, 112, 114, 105, 110, 116, 32, 40, 32, 49, 32, 43, 32, 40, 32, 50, 32, 42, 32, 97, 32, 41, 32, 41, 32, 59, 32, 125, 10]
def smL : List Tok := (lexS smT).1
def smB : List Tok := [⟨1, [102, 117, 110, 99], 0⟩, ⟨1, [105, 102], 0⟩]
theorem sm_lex : lexS smT = (smL, none) := by kernel_rfl
theorem sm_len : smL.length = 15 := by kernel_rfl
theorem sm_at : (parseS smL).2.1 = 15 := by kernel_rfl
theorem sm_err : (parseS smL).2.2 = 0 := by kernel_rfl
theorem sm_txt : txt (parseS smL).1 = smX := by kernel_rfl
theorem sm_sz : (parseS smL).1.sz = 12 := by kernel_rfl
theorem sm_same : sameB (parseS smL).1 (parseS smL).1 = true := by kernel_rfl
theorem sm_bad : (parseS smB).2.1 = 1 ∧ (parseS smB).2.2 = 2 := by constructor <;> kernel_rfl
theorem sm_ned : Nat.ble (ned (parseS smL).1) 2000 = true := by kernel_rfl

end Go.Proofs.Ytgndnodahlabiaa
