/-
  The law's own rows of all classes (layer 8): each copied, then its first number stored over.
-/
import Derived.Test.YtcebidhfgdchlaaCtF
import Derived.RegionIn
import Derived.Deep.RegionLaw
namespace Go.Proofs.Ytcebidhfgdchlaa
open Go.ChangeShapes Go.WideShapes Go.ChangeAt Go.RowKit Go.Shelf Go.Maps

attribute [local go_sem] Oper.semAt_some

theorem operIn_round {P : Program} {o : Oper} {a : Act} {w : World} {K : Act → World → Prop} {Q : Exit → Act → World → Prop} {n : Nat} (l : Nat) (hnd : ∀ c, o.op ≠ .defer c) (h : o.wpIn Fence.wide n P a w K Q) : o.wpIn (Fence.wide.inRound l) n P a w K Q := by
  refine ⟨h.1, ?_⟩
  have h2 := h.2
  rw [Fence.inRound_round, Oper.semAt_some l _ _ hnd]
  exact h2
theorem anyIn_round {P : Program} {ops : Array Oper} {Q : Exit → Act → World → Prop} {md : Region.Mode} {n : Nat} (l : Nat) (hnd : ∀ (i : Nat) (o : Oper), ops[i]? = some o → ∀ c, o.op ≠ .defer c) : ∀ (fuel : Nat) (listed : Array Bool) (a : Act) (w : World), wpAnyIn Fence.wide n P md ops Q fuel listed a w → wpAnyIn (Fence.wide.inRound l) n P md ops Q fuel listed a w
  | 0, _, _, _, h => h
  | fuel + 1, listed, a, w, h => by
    refine ⟨h.1, fun i hi => ?_⟩
    have h2 := wpOpIn_mono (fun a w hk => anyIn_round l hnd fuel _ a w hk) (h.2 i hi)
    unfold wpOpIn at h2 ⊢
    cases ho : ops[i]? with
    | none => rw [ho] at h2; exact h2
    | some o =>
      rw [ho] at h2
      simp only at h2 ⊢
      split
      · rename_i hw; rw [if_pos hw] at h2; exact operIn_round l (hnd i o ho) h2
      · rename_i hw; rw [if_neg hw] at h2; exact h2
/-- No operation puts a call off. -/
def noDefer (ops : Array Oper) : Bool := ops.all fun o => match o.op with | .defer _ => false | _ => true
theorem noDefer_spec {ops : Array Oper} (h : noDefer ops = true) : ∀ (i : Nat) (o : Oper), ops[i]? = some o → ∀ c, o.op ≠ .defer c := by
  intro i o ho c e
  have hm : o ∈ ops := Array.mem_of_getElem? ho
  have := (Array.all_eq_true_iff_forall_mem.1 h) o hm
  rw [e] at this; cases this
theorem region_round {P : Program} {ops : Array Oper} {Q : Exit → Act → World → Prop} {n : Nat} {l id : Nat} {a : Act} {w : World} (hm : P.follows .mixedOrders = true) (hd : noDefer ops = true)
    (h : wpAnyIn Fence.wide n P .any ops Q ops.size (Array.replicate ops.size false) a w.drew) : (Code.region id ops true).wpIn (Fence.wide.inRound l) n P Q a w :=
  wpIn_region_any hm (anyIn_round l (noDefer_spec hd) _ _ _ _ h)
/-- append, as one step. -/
theorem stepIn_append {F : Fence} {n : Nat} {P : Program} {ops : Array Oper} {o : Oper} {a : Act} {w w' : World} {K : Act → World → Prop} {Q : Exit → Act → World → Prop} {E : Prop} (hg : o.guard = none) (s x : Operand) (t : TypeId)
    (hop : o.op = Op.call { callee := Callee.builtin Builtin.append, args := #[s, x], argTypes := #[t, t] }) {v y r : Value} (hs : a.eval s = v) (hx : a.eval x = y) (hr : (Builtin.append_ #[t, t] o.type #[v, y]).run P w = .ok r w')
    (hK : K (a.put o.dst r) w') : if Region.wanted o (yielded ops a.tmps) = true then Oper.wpIn F n P o a w K Q else E := by
  have hw : Region.wanted o (yielded ops a.tmps) = true := by simp [Region.wanted, hg]
  rw [if_pos hw]
  unfold Oper.wpIn
  refine ⟨?_, ?_⟩
  · simp [Oper.about, hop, resolve, Target.leads, Sem.run_pure]
  · rw [Oper.semAt_plain F _ _ (by rw [hop]; intro c hc'; cases hc')]
    simp [execOp, hop, resolve, invoke, builtin, hs, hx, hr, Result.andThen]
    exact hK
theorem owns_empty (w : World) (base : Nat) (e : TypeId) (size : Nat) (hb : base ≤ w.heap.size) : (w.alloc (.cells #[] e)).ownsRow base e size (.slice (some ⟨w.heap.size, 0, none⟩) 0 0) 0 [] :=
  ⟨by simp, .inr ⟨w.heap.size, 0, #[], rfl, hb, World.alloc_heap_new _ _, Nat.le_refl _, Nat.zero_le _, by simp, by simp⟩⟩
/-- A row appended to a new one. -/
theorem copy_row (w : World) (ty : TypeId) (blk cap : Nat) (r : List Int) (hl : r.length ≤ 100000) (h0 : 0 < r.length) (hb : blk < w.heap.size) (h2 : ∀ k, k < r.length → w.cell? ⟨blk, k, none⟩ = some (.int .i64 (r.getD k 0))) :
    ∃ g cp w', (Builtin.append_ #[36, 36] ty #[.slice (some ⟨w.heap.size, 0, none⟩) 0 0, .slice (some ⟨blk, 0, none⟩) r.length cap]).run Try.prog (w.alloc (.cells #[] 3)) = .ok (.slice (some ⟨g, 0, none⟩) r.length cp) w' ∧ w'.ownsRow w.heap.size 3 1 (.slice (some ⟨g, 0, none⟩) r.length cp) r.length (intsI r) ∧ Below w.heap.size w w' := by
  have ho := owns_empty w w.heap.size 3 1 (Nat.le_refl _)
  have hbn : Below w.heap.size w (w.alloc (.cells #[] 3)) := (Below.refl _ w).alloc (Nat.le_refl _) _
  obtain ⟨i, a1, a2, a3, a4⟩ := typI
  obtain ⟨g, cp, w', hap, ho2, hgb, -, -⟩ := run_append_lies (P := Try.prog) (w.alloc (.cells #[] 3)) 36 ty w.heap.size 3 i _ 1 8 Try.underlying36 a1 a2 a4 a3 rfl (by decide) _ 0 [] ho ⟨blk, 0, none⟩ r.length cap (intsI r) (by simp)
    (fun j u hu => by
      rw [Addr.add_mid]
      have hj : j < r.length := by have := (List.getElem?_eq_some_iff.1 hu).1; simpa using this
      rw [Nat.zero_add, hbn.cell (p := ⟨blk, j, none⟩) hb, h2 j hj, ← hu, List.getElem?_map, List.getD_eq_getElem?_getD, List.getElem?_eq_getElem hj]; rfl)
    (fun u hu => by obtain ⟨x, _, rfl⟩ := List.mem_map.1 hu; rfl) h0 (by unfold maxLen; omega) (by omega) (by simp) _ rfl
  rw [Nat.zero_add] at hap ho2
  refine ⟨g, cp, w', hap, by simpa using ho2, ?_⟩
  exact hbn.trans ⟨hgb.os, hgb.tape, hgb.output, hgb.size, fun b hb' => hgb.block b (by simp; omega) (fun e => by simp [Value.ownBlock] at e; omega)⟩

theorem RowsI.mono {W : World} {base base' : Nat} {v : Value} {xss : List (List Int)} (h : RowsI W base v xss) (hb : base' ≤ base) : RowsI W base' v xss := by
  obtain ⟨vs, h1, h2, h3⟩ := h
  exact ⟨vs, owns_mono h1 hb, fun i hi => by obtain ⟨u, hu, ho⟩ := h2 i hi; exact ⟨u, hu, owns_mono ho hb⟩, h3⟩

/-- What the rounds keep. -/
structure RowI (st : List Th) (w0 : World) (hz z : Nat) (yss : List (List Int)) (k : Nat) (W : World) : Prop where
  bel : Below w0.heap.size w0 W
  b0 : W.heap[w0.heap.size]? = some (.cells #[.int .i64 1000] 3 (0, 0))
  b1 : W.heap[w0.heap.size + 1]? = some (.cells #[.slice none 0 0] 43 (0, 0))
  out : ∃ v, W.heap[w0.heap.size + 3]? = some (.cells #[v] 43 (0, 0)) ∧ RowsI W z v (yss.take k) ∧ ∀ b, v.ownBlock = some b → z ≤ b
  cls : ∃ xss, Cls st st.length xss ∧ yss.Perm xss
  zle : hz + 2 ≤ z ∧ z ≤ W.heap.size
theorem RowI.turns {st : List Th} {w0 : World} {hz z : Nat} {yss : List (List Int)} {k : Nat} {W W' : World} {Q : Nat → Prop} (h : RowI st w0 hz z yss k W) (hz0 : w0.heap.size + 4 ≤ hz) (ht : Turns Q W W') (hq : ∀ b, b < hz ∨ z ≤ b → ¬ Q b) : RowI st w0 hz z yss k W' := by
  obtain ⟨v, o1, o2, o3⟩ := h.out
  have hzl := h.zle
  refine ⟨ht.below h.bel h.bel.size (fun b hb => hq b (by omega)), (ht.block _ (lt_of h.b0) (hq _ (by omega))).trans h.b0, (ht.block _ (lt_of h.b1) (hq _ (by omega))).trans h.b1, ⟨v, (ht.block _ (lt_of o1) (hq _ (by omega))).trans o1, o2.turns ht (fun b hb _ => hq b (.inr hb)), o3⟩, h.cls, hzl.1, by have := ht.size; omega⟩

theorem eql_fn (x : Nat) (w : World) : (binOp .eql 65 (.func (.func 37) #[] #[.pointer (some ⟨x, 0, none⟩)]) .nilFunc).run Try.prog w = .ok (.bool false) w := by kernel_rfl
theorem own_cells {W : World} {b g cap : Nat} {l : List Int} (ho : W.ownsRow b 3 1 (.slice (some ⟨g, 0, none⟩) l.length cap) l.length (intsI l)) : ∀ j, j < l.length → W.cell? ⟨g, j, none⟩ = some (.int .i64 (l.getD j 0)) := fun j hj => by
  rw [ho.cellAt j (by omega), List.getElem?_map, List.getD_eq_getElem?_getD, List.getElem?_eq_getElem hj]; rfl
theorem cell_put (W : World) (D b j : Nat) (o : Obj) (h : b ≠ D) : (W.putObj D o).cell? ⟨b, j, none⟩ = W.cell? ⟨b, j, none⟩ := by
  simp only [World.cell?, World.putObj_heap_other h]

set_option maxRecDepth 100000 in
set_option maxHeartbeats 4000000 in
theorem lawrows_is (base X mb : Nat) (v : Value) (st : List Th) (hl : st.length ≤ 200) (w : World) (hS : SAt w base X mb v st) :
    Calls Try.prog 19 #[.pointer (some ⟨X, 0, none⟩), .int .i64 1000] w fun e w' => ∃ (v' : Value) (yss xss : List (List Int)), e = .returned v' ∧ Cls st st.length xss ∧ yss.Perm xss ∧ RowsI w' w.heap.size v' yss ∧ Below w.heap.size w w' := by
  refine (callsIn_wide (n := 0)).1 ?_
  have HS := hide hS
  clear hS
  refine callsIn_of_wp_marks Try.func19 rfl trivial ?_
  simp only [Try.ntmps19, List.size_toArray, List.length_cons, List.length_nil, Nat.reduceAdd, Nat.reduceSub, Array.replicate_succ, Array.replicate_zero, List.push_toArray, List.append_toArray, List.nil_append, List.cons_append]
  gi_wp2
  have kb0 : ((w.alloc (.cells #[.int .i64 1000] 3)).alloc (.cells #[.slice none 0 0] 43)).heap[w.heap.size]? = some (.cells #[.int .i64 1000] 3 (0, 0)) := (Below.heap_alloc _ _ _ (by rw [World.size_alloc]; omega)).trans (World.alloc_heap_new w _)
  have kb1 : ((w.alloc (.cells #[.int .i64 1000] 3)).alloc (.cells #[.slice none 0 0] 43)).heap[w.heap.size + 1]? = some (.cells #[.slice none 0 0] 43 (0, 0)) := by
    have := World.alloc_heap_new (w.alloc (.cells #[.int .i64 1000] 3)) (.cells #[.slice none 0 0] 43)
    rwa [World.size_alloc] at this
  have kbe : Below w.heap.size w ((w.alloc (.cells #[.int .i64 1000] 3)).alloc (.cells #[.slice none 0 0] 43)) := ((Below.refl _ w).alloc (Nat.le_refl _) _).alloc (by rw [World.size_alloc]; omega) _
  have ksz : ((w.alloc (.cells #[.int .i64 1000] 3)).alloc (.cells #[.slice none 0 0] 43)).heap.size = w.heap.size + 2 := by simp
  have KB := hide (And.intro kb0 (And.intro kb1 kbe))
  clear kb0 kb1 kbe
  generalize (w.alloc (.cells #[.int .i64 1000] 3)).alloc (.cells #[.slice none 0 0] 43) = w1 at *
  refine ⟨by trivial, by trivial, (all_in 0 X w1).mono ?_⟩
  rintro e w2 ⟨rfl, hs2, hb2, k2⟩
  rw [ksz] at k2 hb2 hs2
  have K2 := hide (And.intro hb2 k2)
  clear hb2 k2
  rw [ksz]
  have hef := eql_fn (w.heap.size + 2) w2
  gi_wp2
  clear hef
  have kb3 := World.alloc_heap_new w2 (.cells #[.slice none 0 0] 43)
  rw [hs2] at kb3
  have kn := bel_new w2 (.cells #[.slice none 0 0] 43)
  rw [hs2] at kn
  have hs3 : (w2.alloc (.cells #[.slice none 0 0] 43)).heap.size = w.heap.size + 4 := by simp [hs2]
  have K3 := hide (And.intro kb3 kn)
  clear kb3 kn
  generalize w2.alloc (.cells #[.slice none 0 0] 43) = W3 at *
  have hbel3 : Below w.heap.size w W3 := (KB.out.2.2.trans (K2.out.1.mono (by omega))).trans (K3.out.2.mono (by omega))
  have q0 : W3.heap[w.heap.size]? = some (.cells #[.int .i64 1000] 3 (0, 0)) := (K3.out.2.block _ (by omega)).trans ((K2.out.1.block _ (by omega)).trans KB.out.1)
  have q1 : W3.heap[w.heap.size + 1]? = some (.cells #[.slice none 0 0] 43 (0, 0)) := (K3.out.2.block _ (by omega)).trans ((K2.out.1.block _ (by omega)).trans KB.out.2.1)
  have q2 : W3.heap[w.heap.size + 2]? = some (.cells #[.pointer (some ⟨X, 0, none⟩)] 24 (0, 0)) := (K3.out.2.block _ (by omega)).trans K2.out.2
  have Q := hide (And.intro q0 (And.intro q1 K3.out.1))
  have hS3 := HS.out.below hbel3
  have HB3 := hide hbel3
  clear KB K2 K3 q0 q1 hbel3 ksz
  refine range_all (ps := #[14, 15]) rfl (st := st) (by omega) (by rfl) hS3 q2 (fun z yss k W => RowI st w (w.heap.size + 4) z yss k W) ?hI ?h0 ?hround ?hdone
  case hI =>
    intro z yss k W W' h ht
    exact h.turns (by omega) ht (fun b hb e => by have := h.zle; omega)
  case h0 =>
    intro W2 yss xss hb hsz hC hp
    rw [hs3] at hb hsz
    exact ⟨HB3.out.trans (hb.mono (by omega)), (hb.block _ (by omega)).trans Q.out.1, (hb.block _ (by omega)).trans Q.out.2.1, ⟨_, (hb.block _ (by omega)).trans Q.out.2.2, ⟨[], World.ownsRow_nil _ _ _ _, fun i hi => absurd hi (by simp), fun i j u u' _ hi => by simp at hi⟩, fun b hb => by cases hb⟩, ⟨xss, hC, hp⟩, by omega, Nat.le_refl _⟩
  case hround =>
    intro l z yss k u Wr K hz2 hk hyl hlen hub hK
    have HK := hide hK
    have HUB := hide hub
    rw [hs3] at hz2
    have hyl2 : yss.length ≤ 100000 := hyl
    have HLEN := hide (And.intro hk hlen)
    clear hK hub hyl hk hlen
    dsimp only
    generalize hx0 : (yss.getD k []).getD 0 0 = x0
    have HX0 := hide hx0
    clear hx0
    gi_wp2
    refine HK.out _ ?_
    intro Wb hI ho
    obtain ⟨vo, o1, o2, o3⟩ := hI.out
    obtain ⟨xss, hC, hp⟩ := hI.cls
    have hkl := HLEN.out.1
    have hpos := HLEN.out.2
    have hy200 : yss.length ≤ 200 := by rw [hp.length_eq, hC.len]; exact Nat.le_trans (rootsTo_le _ _) hl
    have hym : yss.getD k [] ∈ yss := by rw [List.getD_eq_getElem?_getD, List.getElem?_eq_getElem hkl]; exact List.getElem_mem hkl
    have hyn : (yss.getD k []).length ≤ 200 := by
      obtain ⟨L, rfl, hL⟩ := hC
      obtain ⟨r, hr, he⟩ := List.mem_map.1 (hp.mem_iff.1 hym)
      have := (hL r hr).1
      rw [he] at this; omega
    have htl : (yss.take k).length = k := by rw [List.length_take]; omega
    obtain ⟨vs, p1, p2, p3⟩ := id o2
    obtain ⟨oa, oc, rfl, -⟩ := owns_shape p1
    rw [htl] at o1 o2 o3 p1
    have hzl := hI.zle
    obtain ⟨gu, cu, cur, rfl, g1, g2, g3, g4, g5, g6⟩ : ∃ (gu cu : Nat) (cur : Array Value), u = .slice (some ⟨gu, 0, none⟩) (yss.getD k []).length cu ∧ w.heap.size + 6 ≤ gu ∧ Wb.heap[gu]? = some (.cells cur 3 (0, 0)) ∧ (yss.getD k []).length ≤ cu ∧ True ∧ True ∧ cur.toList.take ((yss.getD k []).length * 1) = intsI (yss.getD k []) := by
      rcases ho.2 with ⟨_, h0⟩ | ⟨g, cap, cur, h1, h2, h3, h4, h5, h6, h7⟩
      · omega
      · exact ⟨g, cap, cur, h1, by omega, h3, h4, trivial, trivial, h7⟩
    have hub := HUB.out gu rfl
    rw [hs3] at hub
    have c6 : Wb.cell? ⟨w.heap.size + 3, 0, none⟩ = some (.slice oa k oc) := cell_of o1 0
    have c3 : Wb.cell? ⟨w.heap.size, 0, none⟩ = some (.int .i64 1000) := cell_of hI.b0 0
    have hcell := own_cells ho
    have x2 : Wb.cell? ⟨gu, 0, none⟩ = some (.int .i64 x0) := by rw [← HX0.out]; exact hcell 0 hpos
    obtain ⟨Wd, hWd, hdt, hds⟩ : ∃ Wd, Wb.drew = Wd ∧ Turns (fun _ => False) Wb Wd ∧ Wd.heap.size = Wb.heap.size := ⟨_, rfl, ⟨rfl, rfl, rfl, Nat.le_refl _, fun _ _ _ => rfl⟩, rfl⟩
    have gul := lt_of g2
    have bol := lt_of o1
    have hcelld : ∀ j, j < (yss.getD k []).length → Wd.cell? ⟨gu, j, none⟩ = some (.int .i64 ((yss.getD k []).getD j 0)) := fun j hj => by
      have := hcell j hj
      simp only [World.cell?] at this ⊢
      rw [hdt.block gu gul (fun h => h)]; exact this
    obtain ⟨gn, cn, W4, ha1, hn1, hn2⟩ := copy_row Wd 36 gu cu (yss.getD k []) (by omega) hpos (by omega) hcelld
    have hs4 := hn2.size
    have o2d := o2.turns hdt (fun _ _ _ h => h)
    have o2e := o2d.turns (Turns.of_below hn2) (fun b _ h h2 => by omega)
    have hfr : ∀ (vs : List Value) (x : Value) (b : Nat), W4.ownsRow z 36 1 (.slice oa k oc) (yss.take k).length vs → x ∈ vs → x.ownBlock = some b → (Value.slice (some ⟨gn, 0, none⟩) (yss.getD k []).length cn).ownBlock ≠ some b := fun vs x b h hx hb hc => by
      obtain ⟨vs0, m1, m2, _⟩ := o2d
      have hvs : vs = vs0 := owns_det h (owns_below m1 hn2)
      subst hvs
      obtain ⟨i, hi, he⟩ := List.mem_iff_getElem.1 hx
      have hil : i < (yss.take k).length := by have := m1.1; omega
      obtain ⟨y, hy, hoy⟩ := m2 i hil
      rw [List.getElem?_eq_getElem hi, he] at hy
      injection hy with hy
      subst hy
      have h1 := (hoy.lt b hb).2
      have h2 := (hn1.lt b hc).1
      omega
    obtain ⟨g9, cp9, W5, ha9, t9, r9⟩ := rowsI_step o2e 43 _ (yss.getD k []) (owns_mono hn1 (by omega)) (by rw [htl]; omega) (by omega) hfr
    rw [htl] at ha9 r9
    have hcs : yss.take (k + 1) = yss.take k ++ [yss.getD k []] := by
      rw [List.take_succ_eq_append_getElem hkl, List.getD_eq_getElem?_getD, List.getElem?_eq_getElem hkl]; rfl
    rw [← hcs] at r9
    have T4 : Turns (fun b => z ≤ b) Wb W4 := (hdt.mono (fun _ h => h.elim)).trans ((Turns.of_below hn2).mono (fun b hb => by omega))
    have T5 : Turns (fun b => z ≤ b) Wb W5 := T4.trans t9
    have o1d : Wd.heap[w.heap.size + 3]? = some (.cells #[.slice oa k oc] 43 (0, 0)) := (hdt.block _ bol (fun h => h)).trans o1
    have o14 : W4.heap[w.heap.size + 3]? = some (.cells #[.slice oa k oc] 43 (0, 0)) := (T4.block _ bol (by omega)).trans o1
    have o15 : W5.heap[w.heap.size + 3]? = some (.cells #[.slice oa k oc] 43 (0, 0)) := (T5.block _ bol (by omega)).trans o1
    have y0 : Wd.cell? ⟨w.heap.size + 3, 0, none⟩ = some (.slice oa k oc) := cell_of o1d 0
    have y1 : (Wd.alloc (.cells #[] 3)).cell? ⟨w.heap.size + 3, 0, none⟩ = some (.slice oa k oc) := cell_of ((Below.heap_alloc _ _ _ (by omega)).trans o1d) 0
    have y2 : W4.cell? ⟨w.heap.size + 3, 0, none⟩ = some (.slice oa k oc) := cell_of o14 0
    have y3 : (W4.alloc (.cells #[.slice (some ⟨gn, 0, none⟩) (yss.getD k []).length cn] 36)).cell? ⟨w.heap.size + 3, 0, none⟩ = some (.slice oa k oc) := cell_of ((Below.heap_alloc _ _ _ (by omega)).trans o14) 0
    have y4 : W5.cell? ⟨w.heap.size + 3, 0, none⟩ = some (.slice oa k oc) := cell_of o15 0
    have y5 : W5.frozen? ⟨w.heap.size + 3, 0, none⟩ = false := frozen_of o15 0
    have g25 : W5.heap[gu]? = some (.cells cur 3 (0, 0)) := (T5.block _ gul (by omega)).trans g2
    have g26 : (W5.setCell ⟨w.heap.size + 3, 0, none⟩ (.slice (some ⟨g9, 0, none⟩) (k + 1) cp9)).heap[gu]? = some (.cells cur 3 (0, 0)) := (Below.heap_setCell _ ⟨w.heap.size + 3, 0, none⟩ _ _ (by show _ ≠ w.heap.size + 3; omega)).trans g25
    have hc0 : cur[0]? = some (.int .i64 x0) := by rw [← x2]; exact (cell_of g2 0).symm
    have z0 : (W5.setCell ⟨w.heap.size + 3, 0, none⟩ (.slice (some ⟨g9, 0, none⟩) (k + 1) cp9)).cell? ⟨gu, 0, none⟩ = some (.int .i64 x0) := (cell_of g26 0).trans hc0
    have z1 : (W5.setCell ⟨w.heap.size + 3, 0, none⟩ (.slice (some ⟨g9, 0, none⟩) (k + 1) cp9)).frozen? ⟨gu, 0, none⟩ = false := frozen_of g26 0
    have z2 : W5.frozen? ⟨gu, 0, none⟩ = false := frozen_of g25 0
    have z3 : W5.cell? ⟨gu, 0, none⟩ = some (.int .i64 x0) := (cell_of g25 0).trans hc0
    have T7 : Turns (fun b => b = w.heap.size + 3 ∨ b = gu ∨ z ≤ b) Wb ((W5.setCell ⟨w.heap.size + 3, 0, none⟩ (.slice (some ⟨g9, 0, none⟩) (k + 1) cp9)).setCell ⟨gu, 0, none⟩ (.int .i64 (-7))) :=
      ((T5.mono (fun b hb => .inr (.inr hb))).trans (Turns.setCell _ _ _ (.inl rfl))).trans (Turns.setCell _ _ _ (.inr (.inl rfl)))
    have o17 := heap_set_same' o15 0 (.slice (some ⟨g9, 0, none⟩) (k + 1) cp9)
    have o18 : ((W5.setCell ⟨w.heap.size + 3, 0, none⟩ (.slice (some ⟨g9, 0, none⟩) (k + 1) cp9)).setCell ⟨gu, 0, none⟩ (.int .i64 (-7))).heap[w.heap.size + 3]? = some (.cells #[.slice (some ⟨g9, 0, none⟩) (k + 1) cp9] 43 (0, 0)) := (Below.heap_setCell _ ⟨gu, 0, none⟩ _ _ (by show _ ≠ gu; omega)).trans o17
    have r18 : RowsI ((W5.setCell ⟨w.heap.size + 3, 0, none⟩ (.slice (some ⟨g9, 0, none⟩) (k + 1) cp9)).setCell ⟨gu, 0, none⟩ (.int .i64 (-7))) z (.slice (some ⟨g9, 0, none⟩) (k + 1) cp9) (yss.take (k + 1)) :=
      (r9.turns (Q := fun b => b = w.heap.size + 3) (Turns.setCell _ _ _ rfl) (fun b hb _ e => by omega)).turns (Q := fun b => b = gu) (Turns.setCell _ _ _ rfl) (fun b hb _ e => by omega)
    have hg9 : z ≤ g9 := by
      obtain ⟨vs9, m1, _⟩ := r9
      exact (m1.lt g9 rfl).1
    have FIN : Hid (Turns (fun b => (Value.slice (some ⟨gu, 0, none⟩) (yss.getD k []).length cu).ownBlock = some b ∨ b < w.heap.size + 4 ∨ z ≤ b) Wb ((W5.setCell ⟨w.heap.size + 3, 0, none⟩ (.slice (some ⟨g9, 0, none⟩) (k + 1) cp9)).setCell ⟨gu, 0, none⟩ (.int .i64 (-7))) ∧ RowI st w (w.heap.size + 4) z yss (k + 1) ((W5.setCell ⟨w.heap.size + 3, 0, none⟩ (.slice (some ⟨g9, 0, none⟩) (k + 1) cp9)).setCell ⟨gu, 0, none⟩ (.int .i64 (-7)))) := by
      refine ⟨T7.mono (fun b hb => ?_), T7.below hI.bel hI.bel.size (fun b hb => by omega), (T7.block _ (lt_of hI.b0) (by omega)).trans hI.b0, (T7.block _ (lt_of hI.b1) (by omega)).trans hI.b1, ⟨_, o18, r18, fun b hb => Nat.le_trans hg9 (Nat.le_of_eq (by injection hb))⟩, hI.cls, hzl.1, by have := T7.size; omega⟩
      rcases hb with hb | hb | hb
      · exact .inr (.inl (by omega))
      · exact .inl (by rw [hb]; rfl)
      · exact .inr (.inr hb)
    have HA1 := hide ha1
    have HA9 := hide ha9
    have hk2 : k < 200 := by omega
    have hWD := hide hWd
    clear hI o1 o2 o3 p1 p2 p3 hC hp ho hym g2 g6 hcell hcelld hdt hds hn1 hn2 o2d o2e hfr ha1 ha9 t9 r9 hcs T4 T5 o1d o14 o15 g25 g26 hc0 T7 o17 o18 r18 hWd hs4 htl hzl hy200 HLEN HUB hub
    generalize (yss.getD k []).length = n at *
    have e1 : ((1000 : Int) ≤ (k : Int)) = False := eq_false (by omega)
    have e2 : ((n : Int) == 0) = false := by rw [beq_eq_false_iff_ne]; omega
    have e3 : (x0 != x0) = false := by simp
    have e4 : (0 : Int) < (n : Int) := by omega
    gi_wp2
    refine region_round (by kernel_rfl) (by kernel_rfl) ?_
    rw [hWD.out]
    refine wpAnyIn_take (i := 2) (v := ?_) rfl rfl (by kernel_rfl) (by kernel_rfl) (by kernel_rfl) (fun _ _ _ h => h) ⟨Or.inl ⟨by rfl, ?_⟩, fun _ => rfl⟩ ?_
    rotate_left 1
    · intro w; go_simp; try with_reducible rfl
    refine wpAnyIn_ready (rs := [0, 1]) (by kernel_rfl) (by simp) (AllReadyIn.cons rfl (fun K hK => ?_) (AllReadyIn.cons rfl (fun K hK => ?_) (AllReadyIn.nil)))
    · go_simp
      refine hK _ _ ?_
      clear hK K
      refine wpAnyIn_ready (rs := [1]) (by kernel_rfl) (by simp) (AllReadyIn.cons rfl (fun K hK => ?_) (AllReadyIn.nil))
      · go_simp
        refine hK _ _ ?_
        clear hK K
        refine wpAnyIn_ready (rs := [3]) (by kernel_rfl) (by simp) (AllReadyIn.cons rfl (fun K hK => ?_) (AllReadyIn.nil))
        · refine stepIn_append rfl (.tmp 31) (.tmp 32) 36 rfl rfl rfl HA1.out ?_
          refine hK _ _ ?_
          clear hK K
          refine wpAnyIn_ready (rs := [4]) (by kernel_rfl) (by simp) (AllReadyIn.cons rfl (fun K hK => ?_) (AllReadyIn.nil))
          · go_simp
            refine hK _ _ ?_
            clear hK K
            refine wpAnyIn_ready (rs := [5]) (by kernel_rfl) (by simp) (AllReadyIn.cons rfl (fun K hK => ?_) (AllReadyIn.nil))
            · refine stepIn_append rfl (.tmp 30) (.tmp 34) 43 rfl rfl rfl HA9.out ?_
              refine hK _ _ ?_
              clear hK K
              refine wpAnyIn_ready (rs := [6]) (by kernel_rfl) (by simp) (AllReadyIn.cons rfl (fun K hK => ?_) (AllReadyIn.nil))
              · go_simp
                refine hK _ _ ?_
                clear hK K
                refine wpAnyIn_done (by kernel_rfl) ?_ _
                (gi_wp2; exact FIN.out)
    · go_simp
      refine hK _ _ ?_
      clear hK K
      refine wpAnyIn_ready (rs := [0, 3]) (by kernel_rfl) (by simp) (AllReadyIn.cons rfl (fun K hK => ?_) (AllReadyIn.cons rfl (fun K hK => ?_) (AllReadyIn.nil)))
      · go_simp
        refine hK _ _ ?_
        clear hK K
        refine wpAnyIn_ready (rs := [3]) (by kernel_rfl) (by simp) (AllReadyIn.cons rfl (fun K hK => ?_) (AllReadyIn.nil))
        · refine stepIn_append rfl (.tmp 31) (.tmp 32) 36 rfl rfl rfl HA1.out ?_
          refine hK _ _ ?_
          clear hK K
          refine wpAnyIn_ready (rs := [4]) (by kernel_rfl) (by simp) (AllReadyIn.cons rfl (fun K hK => ?_) (AllReadyIn.nil))
          · go_simp
            refine hK _ _ ?_
            clear hK K
            refine wpAnyIn_ready (rs := [5]) (by kernel_rfl) (by simp) (AllReadyIn.cons rfl (fun K hK => ?_) (AllReadyIn.nil))
            · refine stepIn_append rfl (.tmp 30) (.tmp 34) 43 rfl rfl rfl HA9.out ?_
              refine hK _ _ ?_
              clear hK K
              refine wpAnyIn_ready (rs := [6]) (by kernel_rfl) (by simp) (AllReadyIn.cons rfl (fun K hK => ?_) (AllReadyIn.nil))
              · go_simp
                refine hK _ _ ?_
                clear hK K
                refine wpAnyIn_done (by kernel_rfl) ?_ _
                (gi_wp2; exact FIN.out)
      · refine stepIn_append rfl (.tmp 31) (.tmp 32) 36 rfl rfl rfl HA1.out ?_
        refine hK _ _ ?_
        clear hK K
        refine wpAnyIn_ready (rs := [0, 4]) (by kernel_rfl) (by simp) (AllReadyIn.cons rfl (fun K hK => ?_) (AllReadyIn.cons rfl (fun K hK => ?_) (AllReadyIn.nil)))
        · go_simp
          refine hK _ _ ?_
          clear hK K
          refine wpAnyIn_ready (rs := [4]) (by kernel_rfl) (by simp) (AllReadyIn.cons rfl (fun K hK => ?_) (AllReadyIn.nil))
          · go_simp
            refine hK _ _ ?_
            clear hK K
            refine wpAnyIn_ready (rs := [5]) (by kernel_rfl) (by simp) (AllReadyIn.cons rfl (fun K hK => ?_) (AllReadyIn.nil))
            · refine stepIn_append rfl (.tmp 30) (.tmp 34) 43 rfl rfl rfl HA9.out ?_
              refine hK _ _ ?_
              clear hK K
              refine wpAnyIn_ready (rs := [6]) (by kernel_rfl) (by simp) (AllReadyIn.cons rfl (fun K hK => ?_) (AllReadyIn.nil))
              · go_simp
                refine hK _ _ ?_
                clear hK K
                refine wpAnyIn_done (by kernel_rfl) ?_ _
                (gi_wp2; exact FIN.out)
        · go_simp
          refine hK _ _ ?_
          clear hK K
          refine wpAnyIn_ready (rs := [0]) (by kernel_rfl) (by simp) (AllReadyIn.cons rfl (fun K hK => ?_) (AllReadyIn.nil))
          · go_simp
            refine hK _ _ ?_
            clear hK K
            refine wpAnyIn_ready (rs := [5]) (by kernel_rfl) (by simp) (AllReadyIn.cons rfl (fun K hK => ?_) (AllReadyIn.nil))
            · refine stepIn_append rfl (.tmp 30) (.tmp 34) 43 rfl rfl rfl HA9.out ?_
              refine hK _ _ ?_
              clear hK K
              refine wpAnyIn_ready (rs := [6]) (by kernel_rfl) (by simp) (AllReadyIn.cons rfl (fun K hK => ?_) (AllReadyIn.nil))
              · go_simp
                refine hK _ _ ?_
                clear hK K
                refine wpAnyIn_done (by kernel_rfl) ?_ _
                (gi_wp2; exact FIN.out)
  case hdone =>
    intro D z yss W hI hD hK
    obtain ⟨v, o1, o2, o3⟩ := hI.out
    have hzl := hI.zle
    obtain ⟨xss, hC, hp⟩ := hI.cls
    rw [List.take_length] at o2
    obtain ⟨vs, p1, p2, p3⟩ := id o2
    obtain ⟨oa, oc, rfl, -⟩ := owns_shape p1
    have c6 : W.cell? ⟨w.heap.size + 3, 0, none⟩ = some (.slice oa yss.length oc) := cell_of o1 0
    have c4 : W.cell? ⟨w.heap.size + 1, 0, none⟩ = some (.slice none 0 0) := cell_of hI.b1 0
    have f4 : W.frozen? ⟨w.heap.size + 1, 0, none⟩ = false := frozen_of hI.b1 0
    obtain rfl : D = w.heap.size + 4 := by omega
    have b4 := heap_set_same' hI.b1 0 (.slice oa yss.length oc)
    have hKT : (W.setCell ⟨w.heap.size + 1, 0, none⟩ (.slice oa yss.length oc)).heap[w.heap.size + 4]? = some (.deferred (some [])) := (Below.heap_setCell _ ⟨w.heap.size + 1, 0, none⟩ _ _ (by show _ ≠ w.heap.size + 1; omega)).trans hK
    have T : Turns (fun b => b = w.heap.size + 1) W (W.setCell ⟨w.heap.size + 1, 0, none⟩ (.slice oa yss.length oc)) := Turns.setCell _ _ _ rfl
    have HR := hide (o2.turns T (fun b hb _ e => by omega))
    have HB := hide (T.below hI.bel hI.bel.size (fun b hb => by omega))
    have HC := hide (And.intro hC hp)
    have HZ : Hid (w.heap.size + 4 < z) := by rw [Hid]; omega
    clear hI o1 o2 o3 p1 p2 p3 hK hzl T hC hp hD
    generalize yss.length = n at *
    gi_wp2
    refine ⟨by simp, .inl ⟨_, _, rfl, run_takeDeferred hKT, ?_⟩⟩
    have u0 := (cell_put (W.setCell ⟨w.heap.size + 1, 0, none⟩ (.slice oa n oc)) (w.heap.size + 4) (w.heap.size + 1) 0 (.deferred none) (by omega)).trans (cell_of b4 0)
    refine ⟨.slice oa n oc, by simp [results, Try.results19, go_sem, u0], _, yss, xss, rfl, HC.out.1, HC.out.2, ((HR.out.turns (Q := fun b => b = w.heap.size + 4) (Turns.putObj _ _ _ rfl) (fun b hb _ e => by have := HZ.out; omega)).mono (by have := HZ.out; omega)), bel_put HB.out (w.heap.size + 4) _ (by omega)⟩

end Go.Proofs.Ytcebidhfgdchlaa
