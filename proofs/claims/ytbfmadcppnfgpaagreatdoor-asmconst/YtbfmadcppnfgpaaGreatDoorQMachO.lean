/-
  Package machine (layer 4): the contract of out.
-/
import Derived.Test.YtbfmadcppnfgpaaGreatDoorQMachB
import Derived.Deep.RegionWith
namespace Go.Proofs.YtbfmadcppnfgpaaGreatDoor.Q
open Go.ChangeShapes Go.WideShapes Go.ChangeAt Go.RowKit


theorem step_append {ops : Array Oper} {o : Oper} {a : Act} {w : World} {K : Act → World → Prop} {Q : Exit → Act → World → Prop} {E : Prop} (hgd : o.guard = none) (d s : Operand)
    (ho : o.op = .call { callee := .builtin .append, args := #[d, s], argTypes := #[34, 34] }) (v1 v2 v3 : Value) (w3 : World) (hd : a.eval d = v1) (hs : a.eval s = v2)
    (hrun : ∀ T, (Builtin.append_ #[34, 34] T #[v1, v2]).run Tryz.prog w = .ok v3 w3) (hK : K (a.put o.dst v3) w3) :
    if Region.wanted o (yielded ops a.tmps) = true then Oper.wp Tryz.prog o a w K Q else E := by
  have hw : Region.wanted o (yielded ops a.tmps) = true := by simp [Region.wanted, hgd]
  rw [if_pos hw]
  have hr := hrun o.type
  unfold Oper.wp
  simp [execOp, ho, resolve, invoke, builtin, hs, hd, hr, Result.andThen]
  exact hK

theorem add_off (b o j : Nat) : (⟨b, o, none⟩ : Addr).add j = ⟨b, o + j, none⟩ := by cases j <;> simp [Addr.add]

theorem typ3 : (Tryz.prog.info? 3).map (fun i => (i.zero, i.size, i.bytes)) = some (some (.int .i64 0), 1, 8) := by kernel_rfl
theorem info_parts {P : Program} {t : TypeId} {z : Value} {n b : Nat} (h : (P.info? t).map (fun i => (i.zero, i.size, i.bytes)) = some (some z, n, b)) : ∃ i, P.info? t = some i ∧ i.zero = some z ∧ i.size = n ∧ i.bytes = b := by
  cases hi : P.info? t with
  | none => rw [hi] at h; simp at h
  | some i => rw [hi] at h; simp at h; exact ⟨i, rfl, h.1, h.2.1, h.2.2⟩

/-- One number more: the old row, or a new block. -/
theorem append_one (w : World) (v : Value) (n : Nat) (xs : List Value) (hown : w.ownsRow 0 3 1 v n xs) (G c : Nat) (u : Int) (hG : w.cell? ⟨G, 0, none⟩ = some (iv u)) (hbd : n + 1 ≤ 100000000) :
    ∃ g cap w', (∀ T, (Builtin.append_ #[34, 34] T #[v, .slice (some ⟨G, 0, none⟩) 1 c]).run Tryz.prog w = .ok (.slice (some ⟨g, 0, none⟩) (n + 1) cap) w') ∧
      w'.ownsRow 0 3 1 (.slice (some ⟨g, 0, none⟩) (n + 1) cap) (n + 1) (xs ++ [iv u]) ∧ w.grownBy w' v.ownBlock ∧ (v.ownBlock = some g ∨ g = w.heap.size) ∧ g < w'.heap.size := by
  obtain ⟨i, hi, hz, hs, hb⟩ := info_parts typ3
  obtain ⟨g, cap, w', hr, h1, h2, h3, h4⟩ := run_append_lies (P := Tryz.prog) w 34 0 0 3 i _ 1 8 Tryz.underlying34 hi hz hs hb rfl (by decide) v n xs hown ⟨G, 0, none⟩ 1 c [iv u] rfl
    (fun j x hx => by
      rw [add_off, Nat.zero_add]
      match j, hx with
      | 0, hx => exact hG.trans hx)
    (fun x hx => by simp at hx; rw [hx]; rfl) (by decide) (by unfold maxLen; omega) (by omega) (Nat.zero_le _) _ rfl
  exact ⟨g, cap, w', fun T => hr, h1, h2, h3, h4⟩

theorem Mach.grown {w w' : World} {F D : Nat → Prop} {B Q R : Nat} {cv nv ov : Value} {l : List Ins} {s : MS} {p q : Int} (m : Mach w F D B Q R cv nv ov l s p q) (hg : w.grownBy w' ov.ownBlock) (k : Nat) (hk : F k) (hO : ov.ownBlock ≠ some k) : w'.heap[k]? = w.heap[k]? :=
  hg.block k (m.lt k hk) (fun e => hO e.symm)
theorem Mach.setOut {w w' : World} {F D : Nat → Prop} {B Q R : Nat} {cv nv ov : Value} {l : List Ins} {s : MS} {p q : Int} (m : Mach w F D B Q R cv nv ov l s p q) (hg : w.grownBy w' ov.ownBlock) (g n cap : Nat) (u : Int)
    (hown : w'.ownsRow 0 3 1 (.slice (some ⟨g, 0, none⟩) n cap) n (vals s.out ++ [iv u])) (hn : n = s.out.length + 1) (ho : ov.ownBlock = some g ∨ g = w.heap.size) (hlt : g < w'.heap.size) :
    Mach (w'.setCell ⟨B, 20, none⟩ (.slice (some ⟨g, 0, none⟩) n cap)) (fun k => F k ∨ k = g) D B Q R cv nv (.slice (some ⟨g, 0, none⟩) n cap) l { s with out := s.out ++ [u] } p q := by
  have oB : ov.ownBlock ≠ some B := fun e => (m.fO B e).2.1 rfl
  have oQ : ov.ownBlock ≠ some Q := fun e => (m.fO Q e).2.2.1 rfl
  have oR : ov.ownBlock ≠ some R := fun e => (m.fO R e).2.2.2.1 rfl
  have oD : ∀ k, D k → ov.ownBlock ≠ some k := fun k hd e => (m.fO k e).2.2.2.2 hd
  have gne : ∀ k, F k → ov.ownBlock ≠ some k → g ≠ k := fun k hf hne e => by
    rcases ho with ho | ho
    · exact hne (e ▸ ho)
    · have := m.lt k hf; omega
  have hk : ∀ k, k ≠ B → (w'.setCell ⟨B, 20, none⟩ (.slice (some ⟨g, 0, none⟩) n cap)).heap[k]? = w'.heap[k]? := fun k hk => Below.heap_setCell _ _ _ _ hk
  have hB := (m.grown hg B m.fB oB).trans m.obj
  exact
  { obj := by
      rw [setCell_eq_setRow w' B 20 _ _ _ _ hB, setRow_heap w' B _ _ _ _ hB]
      have := set_tail (cv := cv) (nv := nv) (ov := ov) (Q := Q) (a := p) (b := q) m.r16 2 (.slice (some ⟨g, 0, none⟩) n cap)
      simp only [Nat.reduceAdd] at this
      rw [show cellsOf cv nv (.slice (some ⟨g, 0, none⟩) n cap) Q { s with out := s.out ++ [u] } p q = _ from this.symm]
      simp
    mem := m.mem.on ((hk _ (Ne.symm m.bq)).trans (m.grown hg _ m.fQ oQ)) ((hk _ (Ne.symm m.br)).trans (m.grown hg _ m.fR oR))
    code := m.code.keep (fun k h => (hk _ (m.fD k h).2.1).trans (m.grown hg _ (m.fD k h).1 (oD k h)))
    inp := m.inp.keep (fun k h => (hk _ (m.fD k h).2.1).trans (m.grown hg _ (m.fD k h).1 (oD k h)))
    out := by
      have := own_keep hown (w' := w'.setCell ⟨B, 20, none⟩ (.slice (some ⟨g, 0, none⟩) n cap)) (fun k h => hk _ (fun e => by
        simp only [Value.ownBlock] at h; injection h with h; exact gne B m.fB oB (h.trans e)))
      simpa [vals, hn] using this
    fB := .inl m.fB
    fQ := .inl m.fQ
    fR := .inl m.fR
    fO := fun k h => by
      simp only [Value.ownBlock] at h
      injection h with h
      subst h
      exact ⟨.inr rfl, gne B m.fB oB, gne Q m.fQ oQ, gne R m.fR oR, fun hd => gne g (m.fD g hd).1 (oD g hd) rfl⟩
    fD := fun k h => ⟨.inl (m.fD k h).1, (m.fD k h).2⟩
    lt := fun k h => by
      rcases h with h | h
      · have := m.lt k h; have := hg.size; simp [World.setCell]; omega
      · simp [World.setCell]; omega
    bq := m.bq
    br := m.br
    r16 := m.r16
    len := m.len
    right := m.right }

set_option maxHeartbeats 1000000 in
theorem out_any {w : World} {F D : Nat → Prop} {B Q R : Nat} {cv nv ov : Value} {l : List Ins} {s : MS} {p q : Int} (m : Mach w F D B Q R cv nv ov l s p q) (o : Int) (a b c : Nat) (i : Int) (ha : a < 16) (h1 : 0 ≤ s.place) (h2 : s.place < 1048576) (h3 : s.out.length ≤ 10000000) :
    Calls Tryz.prog 69 #[ptr B, av o a b c i] w fun e w' => e = two (s, s.place + 1, (0 : Int)) ∧ Ans w F B l { s with out := s.out ++ [s.r a] } w' := by
  have hbl := bx_below w o a b c i
  have ka := (m.below hbl).drew.cr a ha
  rw [r_eq] at ka
  have ka2 : ((bx w o a b c i).alloc (.cells #[iv (s.r a)] 3)).drew.cell? ⟨w.heap.size + 1, 0, none⟩ = some (iv (s.r a)) := by
    show ((bx w o a b c i).alloc (.cells #[iv (s.r a)] 3)).cell? _ = _
    rw [World.cell?, heap_new _ _ (by simp)]; rfl
  generalize s.r a = u at *
  have e0 : ((a : Int) < 16) = True := by simp; omega
  have hbl2 : Below w.heap.size w ((bx w o a b c i).alloc (.cells #[iv u] 3)) := hbl.alloc (by simp) _
  have m2 := (m.below hbl2).drew
  have M2 := (Moves.ofBelow (F := F) hbl2).drew
  have m1 := (m.below hbl).drew
  have k0 := m1.co
  have kp1 := m1.cp
  have k2 := m2.co
  obtain ⟨g, cap, w3, hap, hown, hgr, hg1, hg2⟩ := append_one _ _ _ _ m2.out (w.heap.size + 1) 1 u ka2 (by omega)
  have m4 := m2.setOut hgr g _ cap u hown rfl hg1 hg2
  have M3 := M2.on (Moves.ofGrown hgr (fun k hk => (m2.fO k hk).1))
  have M4 := M3.setCell B 20 m.fB (.slice (some ⟨g, 0, none⟩) (s.out.length + 1) cap)
  have hB3 : w3.heap[B]? = ((bx w o a b c i).alloc (.cells #[iv u] 3)).drew.heap[B]? := m2.grown hgr B m.fB (fun e => (m2.fO B e).2.1 rfl)
  have c3 : w3.cell? ⟨B, 20, none⟩ = some ov := (World.cell?_of_block hB3).trans k2
  have f3 : w3.frozen? ⟨B, 20, none⟩ = false := (World.frozen?_of_block hB3).trans (m2.fr 20)
  have kp := m4.cp
  simp only at kp
  have hsz : w.heap.size ≤ ((bx w o a b c i).alloc (.cells #[iv u] 3)).drew.heap.size := hbl2.size
  have A : Hid (Ans w F B l { s with out := s.out ++ [u] } (w3.setCell ⟨B, 20, none⟩ (.slice (some ⟨g, 0, none⟩) (s.out.length + 1) cap))) := by
    refine ⟨M4, _, fun k hk => ?_, m4.mac⟩
    rcases hk with hk | hk
    · exact .inl hk
    · rcases hg1 with h | h
      · exact .inl (hk ▸ (m2.fO g h).1)
      · exact .inr (by omega)
  have HAP : Hid (∀ T, (Builtin.append_ #[34, 34] T #[ov, .slice (some ⟨w.heap.size + 1, 0, none⟩) 1 1]).run Tryz.prog ((bx w o a b c i).alloc (.cells #[iv u] 3)).drew = .ok (.slice (some ⟨g, 0, none⟩) (s.out.length + 1) cap) w3) := hap
  clear hap hown hgr hg1 hg2 m4 M4 M3 hB3 ka2 hsz m2 M2
  generalize s.out.length = n at *
  go_enter Tryz.func69, Tryz.ntmps69
  go_wp2
  go_region_law (refine step_append rfl (.tmp 10) (.tmp 18) rfl _ _ _ _ rfl rfl HAP.out ?_)
  all_goals go_wp2
  all_goals go_ret2
  all_goals exact ⟨rfl, A.out⟩

end Go.Proofs.YtbfmadcppnfgpaaGreatDoor.Q
