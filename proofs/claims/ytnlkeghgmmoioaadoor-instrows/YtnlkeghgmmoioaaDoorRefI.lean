/-
  EncodeAll of the document's own answers (layer 2): its contract.
-/
import Derived.Test.YtnlkeghgmmoioaaDoorEncA
import Derived.Test.YtnlkeghgmmoioaaDoorRefG
import Derived.Deep.AppendLies
namespace Go.Proofs.YtnlkeghgmmoioaaDoor
open Go.ChangeShapes Go.WideShapes Go.ChangeAt Go.RowKit

theorem Below.grown {B : Nat} {w W W' : World} {row : Option Nat} (h : Below B w W) (hB : B ≤ W.heap.size) (hg : W.grownBy W' row) (hr : ∀ k, row = some k → B ≤ k) : Below B w W' :=
  h.trans ⟨hg.os, hg.tape, hg.output, hg.size, fun k hk => hg.block k (by omega) (fun e => by have := hr k e.symm; omega)⟩
theorem typ5 : (Tryd.prog.info? 5).map (fun i => (i.zero, i.size, i.bytes)) = some (some (.int .u8 0), 1, 1) := by kernel_rfl
abbrev byteV (x : UInt8) : Value := .int .u8 (x.toNat : Int)
theorem append_bytes (w : World) (ty : TypeId) (base : Nat) (v : Value) (n : Nat) (xs : List Value) (hown : w.ownsRow base 5 1 v n xs) (blk off m c : Nat) (l : List UInt8) (hl : l.length = m) (hm : 0 < m) (hB : HasBytes w blk off l) (hbd : n + m ≤ 140737488355328) (hbase : base ≤ w.heap.size) :
    ∃ g cap w', (Builtin.append_ #[25, 25] ty #[v, .slice (some ⟨blk, off, none⟩) m c]).run Tryd.prog w = .ok (.slice (some ⟨g, 0, none⟩) (n + m) cap) w' ∧
      w'.ownsRow base 5 1 (.slice (some ⟨g, 0, none⟩) (n + m) cap) (n + m) (xs ++ l.map byteV) ∧ Below base w w' := by
  obtain ⟨i, hi, hz, hs, hb⟩ := info_parts typ5
  obtain ⟨g, cap, w', hr, h1, h2, _, _⟩ := run_append_lies (P := Tryd.prog) w 25 ty base 5 i (.int .u8 0) 1 1 Tryd.underlying25 hi hz hs hb rfl (by decide) v n xs hown ⟨blk, off, none⟩ m c (l.map byteV) (by simp [hl])
    (fun j u hu => by
      obtain ⟨hj, hu⟩ := List.getElem?_eq_some_iff.1 hu
      rw [Addr.add_mid]
      rw [hB j (by simpa using hj), ← hu]; simp)
    (fun u hu => by obtain ⟨x, _, rfl⟩ := List.mem_map.1 hu; rfl) hm (by unfold maxLen; omega) (by omega) hbase _ rfl
  exact ⟨g, cap, w', hr, h1, Below.grown (Below.refl _ _) hbase h2 (fun k hk => (hown.lt k hk).1)⟩
theorem owns_bytes {w : World} {base : Nat} {v : Value} {l : List UInt8} (h : w.ownsRow base 5 1 v l.length (l.map byteV)) : IsBytes w base v l := by
  by_cases h0 : l.length = 0
  · rcases h.2 with ⟨h1, _⟩ | ⟨g, cap, cur, h1, h2, h3, _⟩
    · exact .inl ⟨List.length_eq_zero_iff.1 h0, h1⟩
    · exact .inr ⟨g, cap, h1, h2, (Array.getElem?_eq_some_iff.1 h3).1, fun j hj => absurd hj (by omega)⟩
  · obtain ⟨g, cap, rfl, h2, h3⟩ := h.form (by omega)
    refine .inr ⟨g, cap, rfl, h2, h3, fun j hj => ?_⟩
    rw [Nat.zero_add, h.cellAt j (by omega)]
    simp [hj]
theorem owns_below {w w' : World} {base : Nat} {e : TypeId} {size : Nat} {v : Value} {n : Nat} {xs : List Value} (h : w.ownsRow base e size v n xs) (hb : Below w.heap.size w w') : w'.ownsRow base e size v n xs :=
  h.kept (row := none) ⟨hb.os, hb.tape, hb.output, hb.size, fun k hk _ => hb.block k hk⟩ (by cases v.ownBlock <;> simp)
theorem wpList_append_run {P : Program} {ops : Array Oper} {rest : List Oper} {o : Oper} {a : Act} {Q : Exit → Act → World → Prop} {w w' : World} (hg : o.guard = none) (s x : Operand) (t : TypeId)
    (hop : o.op = Op.call { callee := Callee.builtin Builtin.append, args := #[s, x], argTypes := #[t, t] }) {v y r : Value} (hs : a.eval s = v) (hx : a.eval x = y) (hr : (Builtin.append_ #[t, t] o.type #[v, y]).run P w = .ok r w')
    (h : wpList P ops Q rest (a.put o.dst r) w') : wpList P ops Q (o :: rest) a w := by
  refine wpList_plain hg fun K hK' => ?_
  unfold Oper.wp
  simp [execOp, hop, resolve, invoke, builtin, hs, hx, hr, Result.andThen]
  exact hK' _ _ h
theorem wpListIn_append_run {F : Fence} {n : Nat} {P : Program} {ops : Array Oper} {rest : List Oper} {o : Oper} {a : Act} {Q : Exit → Act → World → Prop} {w w' : World} (hg : o.guard = none) (s x : Operand) (t : TypeId)
    (hop : o.op = Op.call { callee := Callee.builtin Builtin.append, args := #[s, x], argTypes := #[t, t] }) {v y r : Value} (hs : a.eval s = v) (hx : a.eval x = y) (hr : (Builtin.append_ #[t, t] o.type #[v, y]).run P w = .ok r w')
    (h : wpListIn F n P ops Q rest (a.put o.dst r) w') : wpListIn F n P ops Q (o :: rest) a w := by
  refine wpListIn_plain hg fun K hK' => ?_
  unfold Oper.wpIn
  refine ⟨?_, ?_⟩
  · simp [Oper.about, hop, resolve, Target.leads, Sem.run_pure]
  · rw [Oper.semAt_plain F _ _ (by rw [hop]; intro c hc'; cases hc')]
    simp [execOp, hop, resolve, invoke, builtin, hs, hx, hr, Result.andThen]
    exact hK' _ _ h

set_option maxRecDepth 100000 in
set_option maxHeartbeats 2000000 in
theorem refEncodeAll_any (av : Option Addr) (n cap : Nat) (l : List Ins) (w : World) (hn : l.length = n) (hl : n ≤ 1048576) (hav : 0 < n → ∃ blk off, av = some ⟨blk, off, none⟩ ∧ blk < w.heap.size ∧ HasInsts w blk off l) :
    Calls Tryd.prog 29 #[.slice av n cap] w fun e w' => Below w.heap.size w w' ∧ (((∀ x ∈ l, x.right = true) ∧ ∃ v, e = .returned (.tuple #[v, .int .i64 0]) ∧ IsBytes w' w.heap.size v (l.flatMap Ins.enc)) ∨ ((∃ x ∈ l, x.right = false) ∧ e = .returned (.tuple #[.slice none 0 0, .int .i64 1]))) := by
  have e1 : ((1048576 : Int) < n) = False := by simp; omega
  go_enter Tryd.func29, Tryd.ntmps29
  go_wp2
  go_loopw [4, 5] (fun out i wr => ∃ k : Nat, k ≤ n ∧ i = .int .i64 k ∧ Below w.heap.size w wr ∧ wr.ownsRow w.heap.size 5 1 out (k * 8) (((l.take k).flatMap Ins.enc).map byteV) ∧ ∀ x ∈ l.take k, x.right = true)
    (fun _ i _ => n - (intOf i).toNat)
  case atStart => exact ⟨0, Nat.zero_le _, rfl, Below.refl _ _, World.ownsRow_nil _ _ _ _, by simp⟩
  case round =>
    obtain ⟨k, hk, rfl, hb, hown, hr⟩ := hrel
    by_cases hkn : k < n
    · obtain ⟨blk, off, rfl, hblk, hH⟩ := hav (by omega)
      have hx := (hH k (by omega)).below hb hblk
      generalize hxx : l[k]'(by omega) = x at hx
      obtain ⟨c0, c1, c2, c3, c4⟩ := hx
      have k1 : (k : Int) < n := by omega
      cases hrx : rightB x.o x.a x.b x.c x.i with
      | false =>
        go_wp2_with fail
        refine (refencode_no _ _ _ _ _ hrx _).mono ?_; rintro e w1 ⟨rfl, hb1⟩
        go_wp2
        go_ret2
        exact ⟨(bel_on hb hb1).1, .inr ⟨⟨x, by rw [← hxx]; exact List.getElem_mem _, hrx⟩, rfl⟩⟩
      | true =>
        go_wp2_with fail
        refine (refencode_yes _ _ _ _ _ hrx _).mono ?_; rintro e w1 ⟨v, rfl, hv, hb1⟩
        rcases hv with ⟨hv, _⟩ | ⟨g, cp, rfl, hg1, hg2, hg3⟩
        · exact absurd hv (by simp [encL, encI])
        obtain ⟨q, qc, w2, hap, hown2, hb2⟩ := append_bytes w1 25 w.heap.size _ _ _ (owns_below hown hb1) g 0 8 cp _ (encL_len _ _ _ _ _) (by decide) hg3 (by omega) (Nat.le_trans hb.size hb1.size)
        rw [encL_len]
        go_wp2_with (at_builtin; refine wpList_append_run rfl _ _ 25 rfl rfl rfl hap ?_)
        go_roundw
        case rel =>
          refine ⟨k + 1, by omega, by go_num, hb.trans ((hb1.mono hb.size).trans hb2), ?_, ?_⟩
          · rw [show (k + 1) * 8 = k * 8 + 8 by omega, take_snoc l k (by omega), hxx, List.flatMap_append, List.flatMap_singleton, List.map_append]; exact hown2
          · intro y hy
            rw [take_snoc l k (by omega), hxx, List.mem_append, List.mem_singleton] at hy
            rcases hy with hy | rfl
            · exact hr y hy
            · exact hrx
        case measure => simp [intOf]; omega
    · have he : k = n := by omega
      subst he
      go_wp2
      go_ret2
      rw [List.take_of_length_le (by omega)] at hown hr
      refine ⟨hb, .inl ⟨hr, _, rfl, owns_bytes ?_⟩⟩
      rw [enc_len, hn]; exact hown

end Go.Proofs.YtnlkeghgmmoioaaDoor
