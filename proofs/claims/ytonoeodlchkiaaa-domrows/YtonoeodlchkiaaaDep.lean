/-
  Depth (layer 7): the contract of dom's own.
-/
import Derived.Test.YtonoeodlchkiaaaKid
namespace Go.Proofs.Ytonoeodlchkiaaa
open Go.ChangeShapes Go.WideShapes Go.ChangeAt Go.RowKit Go.Shelf

/-- One number more behind a row of one's own. -/
theorem int_more {W : World} {base : Nat} {v : Value} {l : List Nat} (h : W.ownsRow base 3 1 v l.length (intsV l)) (x : Nat) (ty : TypeId) (hl : l.length ≤ 100000000) (hbase : base ≤ W.heap.size) :
    ∃ g cap w', (Builtin.append_ #[25, 25] ty #[v, .slice (some ⟨W.heap.size, 0, none⟩) 1 1]).run Try.prog (W.alloc (.cells #[.int .i64 (x : Int)] 3)) = .ok (.slice (some ⟨g, 0, none⟩) (l.length + 1) cap) w' ∧ w'.ownsRow base 3 1 (.slice (some ⟨g, 0, none⟩) (l.length + 1) cap) (l ++ [x]).length (intsV (l ++ [x])) ∧ Turns (fun b => base ≤ b) W w' := by
  obtain ⟨g, cap, w', hap, ho, hgb, -, -⟩ := app_int W ty base v l.length (intsV l) h x hl hbase
  refine ⟨g, cap, w', hap, ?_, grown_turns h hgb⟩
  rw [List.length_append, intsV, List.map_append]
  exact ho
theorem owns_one (W : World) (base x : Nat) (hb : base ≤ W.heap.size) : (W.alloc (.cells #[.int .i64 (x : Int)] 3)).ownsRow base 3 1 (.slice (some ⟨W.heap.size, 0, none⟩) 1 1) [x].length (intsV [x]) :=
  ⟨by simp, .inr ⟨W.heap.size, 1, #[.int .i64 (x : Int)], rfl, hb, World.alloc_heap_new _ _, by simp, by unfold maxLen; omega, by simp, by simp⟩⟩
/-- The last one is taken away. -/
theorem owns_pop {W : World} {base g cap : Nat} {l : List Nat} {x : Nat} (h : W.ownsRow base 3 1 (.slice (some ⟨g, 0, none⟩) (l ++ [x]).length cap) (l ++ [x]).length (intsV (l ++ [x]))) : W.ownsRow base 3 1 (.slice (some ⟨g, 0, none⟩) l.length cap) l.length (intsV l) := by
  refine ⟨by simp, .inr ?_⟩
  rcases h.2 with ⟨h1, _⟩ | ⟨g', cap', cur, e, a1, a2, a3, a4, a5, a6⟩
  · cases h1
  · injection e with e1 e2 e3
    injection e1 with e1
    injection e1 with e1
    subst e1; subst e3
    refine ⟨g, cap, cur, rfl, a1, a2, by simp at a3; omega, a4, a5, ?_⟩
    have := congrArg (List.take l.length) a6
    rw [List.take_take] at this
    simp only [Nat.mul_one] at this ⊢
    rw [show min l.length (l ++ [x]).length = l.length by simp] at this
    rw [this]
    unfold intsV
    rw [List.map_append, List.take_left' (by simp)]

/-- Depths, of a row of idom. -/
structure Deep (g : List (List Nat)) (o : List Nat) (d e : List Int) : Prop where
  len : e.length = g.length
  zero : ask e 0 = 0
  up : ∀ x y : Nat, ask d x = (y : Int) → ask e x = ask e y + 1
  none : ∀ x, x ∉ o → ask e x = -1
  pos : ∀ x ∈ o, 0 ≤ ask e x
  bound : ∀ x, ask e x ≤ plc o.reverse x
/-- Depths in the making: those met, those still to be gone over. -/
structure DW (g : List (List Nat)) (o : List Nat) (d e : List Int) (wk : List Nat) : Prop where
  len : e.length = g.length
  zero : ask e 0 = 0
  met : ∀ x, ask e x ≠ -1 → x ∈ o ∧ 0 ≤ ask e x ∧ (x = 0 ∨ ∃ y : Nat, ask d x = (y : Int) ∧ ask e y ≠ -1 ∧ ask e x = ask e y + 1)
  work : ∀ x ∈ wk, ask e x ≠ -1
  bound : ∀ x, ask e x ≤ plc o.reverse x
def offI (e : List Int) : Nat := e.countP fun v => decide (v = -1)
theorem offI_set (e : List Int) (x : Nat) (v : Int) (hx : x < e.length) (h : ask e x = -1) (hv : v ≠ -1) : offI (e.set x v) + 1 = offI e := by
  unfold offI ask at *
  induction e generalizing x with
  | nil => simp at hx
  | cons a e ih =>
    cases x with
    | zero =>
      simp at h
      subst h
      simp [hv]
    | succ x =>
      have := ih x (by simpa using hx) (by simpa using h)
      simp only [List.set_cons_succ, List.countP_cons]
      omega
def offW (R : Nat) (W : World) : Nat := match W.heap[R]? with
  | some (.cells cs _ _) => offI (cs.toList.map intOf)
  | _ => 0
theorem offW_is {R : Nat} {W : World} {d : List Int} (h : W.heap[R]? = some (.cells (intsI d).toArray 3 (0, 0))) : offW R W = offI d := by
  unfold offW
  rw [h]
  simp only [intsI]
  rw [List.map_map]
  congr 1
  conv => rhs; rw [← List.map_id d]
  exact List.map_congr_left fun x _ => rfl
/-- A kid that was not met is met. -/
theorem DW.put {g : List (List Nat)} {o : List Nat} {d e : List Int} {wk : List Nat} (hf : Fin g o d) (ho : Ord g o) (h : DW g o d e wk) {y x : Nat} (hy : ask e y ≠ -1) (hx : ask d x = (y : Int)) (hn : ask e x = -1) : DW g o d (e.set x (ask e y + 1)) (wk ++ [x]) := by
  obtain ⟨hxo, hx0, y', h1, h2, h3, h4⟩ := hf.up x (by omega)
  have e' : y' = y := by omega
  subst e'
  have hxl : x < e.length := by rw [h.len]; exact ho.lt x hxo
  have hyx : y' ≠ x := fun e => by subst e; exact hy hn
  have hpos := (h.met y' hy).2.1
  have hbd := h.bound y'
  refine ⟨by rw [List.length_set]; exact h.len, by rw [ask_set _ _ _ _ hxl, if_neg (Ne.symm hx0)]; exact h.zero, fun z hz => ?_, fun z hz => ?_, fun z => ?_⟩
  · rw [ask_set _ _ _ _ hxl] at hz ⊢
    by_cases e : z = x
    · rw [if_pos e]
      subst e
      exact ⟨hxo, by omega, .inr ⟨y', hx, by rw [ask_set _ _ _ _ hxl, if_neg hyx]; exact hy, by rw [ask_set _ _ _ _ hxl, if_neg hyx]⟩⟩
    · rw [if_neg e] at hz ⊢
      obtain ⟨k1, k2, k3⟩ := h.met z hz
      refine ⟨k1, k2, k3.imp id fun ⟨u, u1, u2, u3⟩ => ⟨u, u1, ?_, ?_⟩⟩
      · rw [ask_set _ _ _ _ hxl]
        by_cases e2 : u = x
        · subst e2; exact absurd hn u2
        · rw [if_neg e2]; exact u2
      · rw [ask_set _ _ _ _ hxl, if_neg (fun e2 => by subst e2; exact u2 hn)]; exact u3
  · rw [ask_set _ _ _ _ hxl]
    by_cases e : z = x
    · rw [if_pos e]; omega
    · rw [if_neg e]
      rcases List.mem_append.1 hz with hz | hz
      · exact h.work z hz
      · simp at hz; exact absurd hz e
  · rw [ask_set _ _ _ _ hxl]
    by_cases e : z = x
    · rw [if_pos e, e]; omega
    · rw [if_neg e]; exact h.bound z
theorem DW.done {g : List (List Nat)} {o : List Nat} {d e : List Int} {wk : List Nat} (hf : Fin g o d) (ho : Ord g o) (h : DW g o d e wk) (hc : ∀ y, ask e y ≠ -1 → ∀ x, ask d x = (y : Int) → ask e x ≠ -1) : Deep g o d e := by
  have hall : ∀ (n x : Nat), plc o.reverse x ≤ n → x ∈ o → ask e x ≠ -1 := by
    intro n
    induction n with
    | zero => intro x hx hxo; exact absurd (Nat.le_zero.1 hx) ((ho.pos x).1 hxo)
    | succ n ih =>
      intro x hx hxo
      by_cases h0 : x = 0
      · subst h0; rw [h.zero]; omega
      · obtain ⟨y, h1, h2, h3⟩ := hf.toTr.next (hf.told hxo) h0
        exact hc y (ih y (by omega) h2.1) x h1
  refine ⟨h.len, h.zero, fun x y hxy => ?_, fun x hx => ?_, fun x hx => (h.met x (hall _ x (Nat.le_refl _) hx)).2.1, h.bound⟩
  · have hxo := (hf.up x (by omega)).1
    rcases (h.met x (hall _ x (Nat.le_refl _) hxo)).2.2 with h0 | ⟨u, u1, _, u3⟩
    · subst h0; rw [hf.zero] at hxy; omega
    · have : u = y := by omega
      subst this; exact u3
  · apply Classical.byContradiction
    intro hn
    exact hx (h.met x hn).1

theorem dw_start (g : List (List Nat)) (o : List Nat) (ho : Ord g o) (d : List Int) : DW g o d ((List.replicate g.length (-1)).set 0 0) [0] ∧ (1 : Nat) + offI ((List.replicate g.length (-1)).set 0 0) ≤ g.length ∧ ∀ x, ask ((List.replicate g.length (-1)).set 0 0) x ≠ -1 → x = 0 := by
  have hl : 0 < g.length := ho.lt 0 ho.zero
  have hr : ∀ x, ask (List.replicate g.length (-1)) x = -1 := fun x => by
    unfold ask
    rw [List.getD_eq_getElem?_getD, List.getElem?_replicate]
    split <;> rfl
  have ha : ∀ x, ask ((List.replicate g.length (-1)).set 0 0) x = if x = 0 then 0 else -1 := fun x => by
    rw [ask_set _ _ _ _ (by simpa using hl), hr]
  have hz : ∀ x, ask ((List.replicate g.length (-1)).set 0 0) x ≠ -1 → x = 0 := fun x hx => by
    rw [ha] at hx
    by_cases e : x = 0
    · exact e
    · rw [if_neg e] at hx; exact absurd rfl hx
  refine ⟨⟨by simp, by rw [ha]; rfl, fun x hx => ?_, fun x hx => ?_, fun x => ?_⟩, ?_, hz⟩
  · have h0 := hz x hx
    subst h0
    exact ⟨ho.zero, by rw [ha]; decide, .inl rfl⟩
  · simp at hx; subst hx; rw [ha]; decide
  · rw [ha]; split <;> omega
  · have h1 := offI_set (List.replicate g.length (-1)) 0 0 (by simpa using hl) (hr 0) (by omega)
    have h2 : offI (List.replicate g.length (-1)) ≤ g.length := by
      unfold offI
      have := List.countP_le_length (p := fun v : Int => decide (v = -1)) (l := List.replicate g.length (-1))
      rwa [List.length_replicate] at this
    omega

set_option maxRecDepth 100000 in
set_option maxHeartbeats 8000000 in
theorem depth_is (g : List (List Nat)) (hmost : g.length ≤ 4096) (o : List Nat) (ho : Ord g o) (d : List Int) (hf : Fin g o d) (B : Nat) (w : World) (hB : w.heap[B]? = some (.cells (intsI d).toArray 3 (0, 0))) :
    Calls Try.prog 17 #[.slice (some ⟨B, 0, none⟩) g.length g.length] w fun e w' => Below w.heap.size w w' ∧ ∃ R de, w.heap.size ≤ R ∧ e = .returned (.slice (some ⟨R, 0, none⟩) g.length g.length) ∧ w'.heap[R]? = some (.cells (intsI de).toArray 3 (0, 0)) ∧ Deep g o d de := by
  have hone : 1 ≤ g.length := ho.lt 0 ho.zero
  have hlen := hf.len
  have hBl := lt_of hB
  have HB := hide hB
  have HO := hide ho
  have HF := hide hf
  clear hB ho hf
  have cS : (w.alloc (.cells #[.int .i64 (-1)] 3)).cell? ⟨w.heap.size, 0, none⟩ = some (.int .i64 (-1)) := cell_of (World.alloc_heap_new w (.cells #[.int .i64 (-1)] 3)) 0
  have HREP := hide (repeat_is w.heap.size g.length (-1) hone hmost (w.alloc (.cells #[.int .i64 (-1)] 3)) cS (by simp))
  have q0 : ((g.length : Int) == 0) = false := beq_eq_false_iff_ne.2 (by omega)
  have q0' : ((g.length : Int) = 0) = False := eq_false (by omega)
  clear cS
  go_enter Try.func17, Try.ntmps17
  go_wp2_with fail
  refine HREP.out.mono ?_
  clear HREP
  rintro e w2 ⟨hb2, R, hR1, rfl, hR2⟩
  have hb12 : Below w.heap.size w w2 := bel_two (bel_new w _) hb2
  rw [World.size_alloc] at hR1
  have hRl := lt_of hR2
  have c0 : w2.cell? ⟨R, 0, none⟩ = some (.int .i64 (ask (List.replicate g.length (-1)) 0)) := ints_at hR2 0 (by rw [List.length_replicate]; omega)
  have f0 := frozen_of hR2 0
  have hR3 := ints_put hR2 0 0
  have hb3 : Below w.heap.size w (w2.setCell ⟨R, 0, none⟩ (.int .i64 0)) := hb12.setCell (by show _ ≤ R; omega) _
  have hs3 : (w2.setCell ⟨R, 0, none⟩ (.int .i64 0)).heap.size = w2.heap.size := by simp [World.setCell]
  have hkd := kids_is B g.length hmost d hlen (w2.setCell ⟨R, 0, none⟩ (.int .i64 0)) ((hb3.block B hBl).trans HB.out)
  have HKD := hide hkd
  have HR3 := hide hR3
  have hp0 : ((0 : Int) < (g.length : Int)) = True := eq_true (by omega)
  clear hkd hR3 hb2 hR2 q0 q0'
  generalize ask (List.replicate g.length (-1)) 0 = old at *
  go_wp2_with fail
  refine HKD.out.mono ?_
  clear HKD c0 f0
  rintro e w5 ⟨hb5, H, base, hH1, hH2, rfl, hK5⟩
  rw [hs3] at hH1 hb5
  have hR5 : w5.heap[R]? = some (.cells (intsI ((List.replicate g.length (-1)).set 0 0)).toArray 3 (0, 0)) := (hb5.block R (by omega)).trans HR3.out
  have hbw5 : Below w.heap.size w w5 := hb3.trans (hb5.mono (by have := hb12.size; omega))
  have hs5 := hb5.size
  rw [hs3] at hs5
  have hHl : H < w5.heap.size := by obtain ⟨vs, _, h2, _⟩ := hK5; exact lt_of h2
  have HKC : Hid (∀ W, Turns (fun b => b = R ∨ w5.heap.size ≤ b) w5 W → RowsB W base H g.length (kidsTo d g.length)) := fun W hT => hK5.turns hT (fun b hb hbl hq => by omega)
  obtain ⟨hst1, hst2, hst3⟩ := dw_start g o HO.out d
  have HST := hide (And.intro hst1 (And.intro hst2 hst3))
  have HR5 := hide hR5
  have ho6 := owns_one w5 w5.heap.size 0 (Nat.le_refl _)
  have hb6 : Below w5.heap.size w5 (w5.alloc (.cells #[.int .i64 0] 3)) := bel_new _ _
  have HO6 := hide (And.intro ho6 hb6)
  clear hst1 hst2 hst3 hR5 ho6 hb6 hK5 hb5 hb3 HR3
  go_wp2
  obtain ⟨ho6, hb6⟩ := HO6.out
  obtain ⟨hst1, hst2, hst3⟩ := HST.out
  clear HO6 HST
  have hR6 := (hb6.block R (by omega)).trans HR5.out
  clear HR5
  have hT6 : Turns (fun b => b = R ∨ w5.heap.size ≤ b) w5 (w5.alloc (.cells #[.int .i64 0] 3)) := (Turns.of_below hb6).mono fun b hb => .inr hb
  generalize (List.replicate g.length (-1)).set 0 0 = e0 at *
  have ho6' : (w5.alloc (.cells #[.int .i64 0] 3)).ownsRow w5.heap.size 3 1 (.slice (some ⟨w5.heap.size, 0, none⟩) 1 1) [0].length (intsV [0]) := ho6
  clear ho6
  generalize w5.alloc (.cells #[.int .i64 0] 3) = w6 at *
  generalize hhs : w5.heap.size = hs at *
  go_loopw [5] (fun v W => ∃ (e : List Int) (wk : List Nat) (gb cap : Nat), v = .slice (some ⟨gb, 0, none⟩) wk.length cap ∧ Turns (fun b => b = R ∨ hs ≤ b) w5 W ∧ W.heap[R]? = some (.cells (intsI e).toArray 3 (0, 0)) ∧ W.ownsRow hs 3 1 (.slice (some ⟨gb, 0, none⟩) wk.length cap) wk.length (intsV wk) ∧ DW g o d e wk ∧ wk.length + offI e ≤ g.length ∧ ∀ y, ask e y ≠ -1 → y ∉ wk → ∀ x, ask d x = (y : Int) → ask e x ≠ -1) (fun v W => 2 * offW R W + (match v with | .slice _ n _ => n | _ => 0))
  case atStart => exact ⟨e0, [0], hs, 1, rfl, hT6, hR6, ho6', hst1, hst2, fun y hy hn => absurd (hst3 y hy) (fun e => hn (by simp [e]))⟩
  case round =>
    clear hT6 hR6 ho6' hst1 hst2 hst3 hb6
    obtain ⟨e, wk, gb, cap, rfl, hT, hRe, hO, hDW, hle, hcl⟩ := hrel
    have hsT := hT.size
    rw [hhs] at hsT
    rcases List.eq_nil_or_concat wk with rfl | ⟨wk', y, rfl⟩
    · have HFIN := hide (hDW.done HF.out HO.out (fun y hy x hx => hcl y hy (by simp) x hx))
      have HRE := hide hRe
      have hbF : Below w.heap.size w wr := hT.below hbw5 (by have := hbw5.size; omega) (fun b hb hq => by have := hbw5.size; have := hb12.size; omega)
      clear hRe hO hDW hcl hT
      simp only [List.length_nil]
      go_wp2
      go_ret
      exact ⟨hbF, R, e, by omega, rfl, HRE.out, HFIN.out⟩
    · rw [List.concat_eq_append] at *
      have hwl : (wk' ++ [y]).length = wk'.length + 1 := by simp
      have hym : ask e y ≠ -1 := hDW.work y (by simp)
      have hyo := (hDW.met y hym).1
      have hyl := HO.out.lt y hyo
      have cy : wr.cell? ⟨gb, wk'.length, none⟩ = some (.int .i64 (y : Int)) := by
        rw [hO.cellAt wk'.length (by rw [hwl]; omega), intsV, List.map_append, List.getElem?_append_right (by simp)]; simp
      have hO2 := owns_pop hO
      have hcp : wk'.length ≤ cap := by obtain ⟨av', cap', he, hc⟩ := owns_shape hO2; injection he with _ _ he3; omega
      have hKW := HKC.out wr hT
      obtain ⟨kav, kcap, ck⟩ := hKW.cell y hyl
      have hkl := kidsTo_len d g.length y
      have HMU : Hid (offW R wr = offI e) := offW_is hRe
      have hDW2 : DW g o d e wk' := ⟨hDW.len, hDW.zero, hDW.met, fun x hx => hDW.work x (by simp [hx]), hDW.bound⟩
      have HIN : Hid (Turns (fun b => b = R ∨ hs ≤ b) w5 wr ∧ wr.heap[R]? = some (.cells (intsI e).toArray 3 (0, 0)) ∧ wr.ownsRow hs 3 1 (.slice (some ⟨gb, 0, none⟩) wk'.length cap) wk'.length (intsV wk') ∧ DW g o d e wk' ∧ wk'.length + 1 + offI e ≤ g.length ∧ ask e y ≠ -1 ∧ ∀ z, ask e z ≠ -1 → z ∉ wk' → z ≠ y → ∀ x, ask d x = (z : Int) → ask e x ≠ -1) :=
        ⟨hT, hRe, hO2, hDW2, by rw [hwl] at hle; omega, hym, fun z hz hn hzy => hcl z hz (fun hm => by rcases List.mem_append.1 hm with hm | hm; exact hn hm; simp at hm; exact hzy hm)⟩
      rw [hwl]
      have hwb : wk'.length + 1 ≤ 4096 := by rw [hwl] at hle; omega
      have hyi : ((y : Int) < (g.length : Int)) = True := eq_true (by omega)
      have hyb : y ≤ 4096 := by omega
      have HKM : Hid (∀ j, j < (kidsTo d g.length y).length → ask d ((kidsTo d g.length y).getD j 0) = (y : Int)) := fun j hj => by
        have h2 := (List.mem_filter.1 (show _ ∈ (List.range g.length).filter _ from getD_mem (kidsTo d g.length y) j hj)).2
        exact of_decide_eq_true h2
      have HKA : Hid (∀ x, ask d x = (y : Int) → ∃ j, j < (kidsTo d g.length y).length ∧ (kidsTo d g.length y).getD j 0 = x) := fun x hx => by
        have hxo := (HF.out.up x (by omega)).1
        have : x ∈ kidsTo d g.length y := List.mem_filter.2 ⟨List.mem_range.2 (HO.out.lt x hxo), by simpa using hx⟩
        obtain ⟨j, hj, e⟩ := List.getElem_of_mem this
        exact ⟨j, hj, by rw [List.getD_eq_getElem?_getD, List.getElem?_eq_getElem hj]; exact e⟩
      have HKR : Hid (∀ W, Turns (fun b => b = R ∨ hs ≤ b) w5 W → ∀ j, j < (kidsTo d g.length y).length → ∃ kb, kav = some ⟨kb, 0, none⟩ ∧ W.cell? ⟨kb, j, none⟩ = some (.int .i64 (((kidsTo d g.length y).getD j 0 : Nat) : Int))) := fun W hTW j hj => by
        obtain ⟨kb, kc, r1, _, _, r2⟩ := (HKC.out W hTW).row y hyl (by omega)
        have hc2 : W.cell? ⟨H, y, none⟩ = wr.cell? ⟨H, y, none⟩ := by
          have a1 := World.cell?_of_block (a := ⟨H, y, none⟩) (hTW.block H (by omega) (by show ¬ (H = R ∨ hs ≤ H); omega))
          have a2 := World.cell?_of_block (a := ⟨H, y, none⟩) (hT.block H (by omega) (by show ¬ (H = R ∨ hs ≤ H); omega))
          rw [a1, a2]
        rw [hc2, ck] at r1
        injection r1 with r1
        injection r1 with r1
        refine ⟨kb, r1, ?_⟩
        have := r2 j hj
        rwa [Nat.zero_add] at this
      clear hO hO2 hDW hDW2 hcl hRe hT hKW hle
      generalize hK : kidsTo d g.length y = ks at *
      clear hK
      generalize hkn : ks.length = kn at *
      have HKN := hide hkn
      clear hkn
      have g1 : ((0 : Int) < (wk'.length : Int) + 1) = True := eq_true (by omega)
      have g2 : (0 < wk'.length + 1) = True := eq_true (by omega)
      have g3 : ((wk'.length : Int) ≤ (cap : Int)) = True := eq_true (by omega)
      have g4 : (wk'.length ≤ cap) = True := eq_true (by omega)
      go_wp2
      go_loopw [40, 5] (fun i v W => ∃ (j : Nat) (e2 : List Int) (wk2 : List Nat) (gb cap : Nat), i = .int .i64 j ∧ j ≤ kn ∧ v = .slice (some ⟨gb, 0, none⟩) wk2.length cap ∧ Turns (fun b => b = R ∨ hs ≤ b) w5 W ∧ W.heap[R]? = some (.cells (intsI e2).toArray 3 (0, 0)) ∧ W.ownsRow hs 3 1 (.slice (some ⟨gb, 0, none⟩) wk2.length cap) wk2.length (intsV wk2) ∧ DW g o d e2 wk2 ∧ wk2.length + 1 + offI e2 ≤ g.length ∧ 2 * offI e2 + wk2.length ≤ 2 * offI e + wk'.length ∧ ask e2 y ≠ -1 ∧ (∀ z, ask e2 z ≠ -1 → z ∉ wk2 → z ≠ y → ∀ x, ask d x = (z : Int) → ask e2 x ≠ -1) ∧ ∀ p, p < j → ask e2 (ks.getD p 0) ≠ -1) (fun i _ _ => kn - (intOf i).toNat)
      case atStart =>
        obtain ⟨a1, a2, a3, a4, a5, a6, a7⟩ := HIN.out
        exact ⟨0, e, wk', gb, cap, rfl, Nat.zero_le _, rfl, a1, a2, a3, a4, a5, Nat.le_refl _, a6, a7, fun p hp => absurd hp (Nat.not_lt_zero _)⟩
      case round =>
        clear HIN cy ck
        obtain ⟨j, e2, wk2, gb2, cap2, rfl, hj, rfl, hT2, hR2, hO2, hD2, hle2, hmu2, hym2, hcl2, hks2⟩ := hrel
        have hsT2 := hT2.size
        rw [hhs] at hsT2
        by_cases hjl : j < kn
        · have e1 : ((j : Int) < (kn : Int)) = True := eq_true (by omega)
          obtain ⟨kb, rfl, cj⟩ := HKR.out wr hT2 j hjl
          have hkd := HKM.out j hjl
          have hxo := (HF.out.up (ks.getD j 0) (by omega)).1
          have hxl := HO.out.lt _ hxo
          have cx := ints_at hR2 (ks.getD j 0) (by rw [hD2.len]; exact hxl)
          have cyy := ints_at hR2 y (by rw [hD2.len]; exact hyl)
          have fx := frozen_of hR2 (ks.getD j 0)
          by_cases hn : ask e2 (ks.getD j 0) = -1
          · have hput := hD2.put HF.out HO.out hym2 hkd hn
            have hoff := offI_set e2 (ks.getD j 0) (ask e2 y + 1) (by rw [hD2.len]; exact hxl) hn (by have := (hD2.met y hym2).2.1; omega)
            have hRp := ints_put hR2 (ks.getD j 0) (ask e2 y + 1)
            have hTp : Turns (fun b => b = R ∨ hs ≤ b) wr (wr.setCell ⟨R, ks.getD j 0, none⟩ (.int .i64 (ask e2 y + 1))) := Turns.setCell _ _ _ (.inl rfl)
            have hOp : (wr.setCell ⟨R, ks.getD j 0, none⟩ (.int .i64 (ask e2 y + 1))).ownsRow hs 3 1 (.slice (some ⟨gb2, 0, none⟩) wk2.length cap2) wk2.length (intsV wk2) := owns_turns hO2 (Turns.setCell (Q := fun b => b = R) wr ⟨R, ks.getD j 0, none⟩ _ rfl) (fun b hb e => by have := (hO2.lt b hb).1; omega)
            have hsp := hTp.size
            obtain ⟨g9, c9, W9, hap, ho9, hT9⟩ := int_more hOp (ks.getD j 0) 25 (by omega) (by omega)
            have hR9 : W9.heap[R]? = some (.cells (intsI (e2.set (ks.getD j 0) (ask e2 y + 1))).toArray 3 (0, 0)) := (hT9.block R (by omega) (by show ¬ hs ≤ R; omega)).trans hRp
            have hyx : y ≠ ks.getD j 0 := fun e => by rw [← e] at hn; exact hym2 hn
            have hask : ∀ z, ask (e2.set (ks.getD j 0) (ask e2 y + 1)) z = if z = ks.getD j 0 then ask e2 y + 1 else ask e2 z := fun z => ask_set _ _ _ _ (by rw [hD2.len]; exact hxl)
            have hyp := (hD2.met y hym2).2.1
            have hyb2 := hD2.bound y
            have hpl := plc_le_len HO.out y
            have HOUT : Hid (Turns (fun b => b = R ∨ hs ≤ b) w5 W9 ∧ W9.heap[R]? = some (.cells (intsI (e2.set (ks.getD j 0) (ask e2 y + 1))).toArray 3 (0, 0)) ∧ W9.ownsRow hs 3 1 (.slice (some ⟨g9, 0, none⟩) (wk2.length + 1) c9) (wk2 ++ [ks.getD j 0]).length (intsV (wk2 ++ [ks.getD j 0])) ∧ DW g o d (e2.set (ks.getD j 0) (ask e2 y + 1)) (wk2 ++ [ks.getD j 0]) ∧ (wk2 ++ [ks.getD j 0]).length + 1 + offI (e2.set (ks.getD j 0) (ask e2 y + 1)) ≤ g.length ∧ 2 * offI (e2.set (ks.getD j 0) (ask e2 y + 1)) + (wk2 ++ [ks.getD j 0]).length ≤ 2 * offI e + wk'.length ∧ ask (e2.set (ks.getD j 0) (ask e2 y + 1)) y ≠ -1 ∧ (∀ z, ask (e2.set (ks.getD j 0) (ask e2 y + 1)) z ≠ -1 → z ∉ wk2 ++ [ks.getD j 0] → z ≠ y → ∀ x, ask d x = (z : Int) → ask (e2.set (ks.getD j 0) (ask e2 y + 1)) x ≠ -1) ∧ ∀ p, p < j + 1 → ask (e2.set (ks.getD j 0) (ask e2 y + 1)) (ks.getD p 0) ≠ -1) := by
              have up : ∀ z, ask e2 z ≠ -1 → ask (e2.set (ks.getD j 0) (ask e2 y + 1)) z ≠ -1 := fun z hz => by rw [hask]; split; omega; exact hz
              refine ⟨hT2.trans (hTp.trans (hT9.mono fun b hb => .inr hb)), hR9, ho9, hput, by rw [List.length_append, List.length_singleton]; omega, by rw [List.length_append, List.length_singleton]; omega, up y hym2, fun z hz hnz hzy x hx => ?_, fun p hp => ?_⟩
              · have hz1 : z ≠ ks.getD j 0 := fun e => hnz (by simp [e])
                rw [hask, if_neg hz1] at hz
                exact up x (hcl2 z hz (fun hm => hnz (by simp [hm])) hzy x hx)
              · rcases Nat.lt_or_ge p j with h | h
                · exact up _ (hks2 p h)
                · obtain rfl : p = j := by omega
                  rw [hask, if_pos rfl]; omega
            have hse : (wr.setCell ⟨R, ks.getD j 0, none⟩ (.int .i64 (ask e2 y + 1))).heap.size = wr.heap.size := by simp [World.setCell]
            rw [hse] at hap
            have HAP := hide hap
            have hav : ask e2 y ≤ 4096 := by omega
            clear hse hsp
            rw [hn] at cx
            clear hput hoff hRp hTp hOp hap ho9 hT9 hR9 hask hcl2 hks2 hD2 hO2 hT2 hkd hn hym2
            generalize hes : e2.set (ks.getD j 0) (ask e2 y + 1) = e3 at *
            clear hes
            generalize ks.getD j 0 = x at *
            generalize ask e2 y = ay at *
            have hxi : ((x : Int) < (g.length : Int)) = True := eq_true (by omega)
            have hxb : x ≤ 4096 := by omega
            generalize hw2 : wk2.length = wl at *
            have HWL : Hid ((wk2 ++ [x]).length = wl + 1) := by rw [Hid, List.length_append, hw2]; rfl
            clear hw2
            go_wp2_with (at_builtin; refine wpList_append_run rfl _ _ 25 rfl rfl rfl HAP.out ?_)
            go_roundw
            case rel =>
              obtain ⟨a1, a2, a3, a4, a5, a6, a7, a8, a9⟩ := HOUT.out
              exact ⟨j + 1, e3, wk2 ++ [x], g9, c9, by go_num, by omega, by rw [HWL.out], a1, a2, by rw [HWL.out] at a3 ⊢; exact a3, a4, a5, a6, a7, a8, a9⟩
            case measure => simp [intOf]; omega
          · have e2' : (ask e2 (ks.getD j 0) == -1) = false := beq_eq_false_iff_ne.2 hn
            have e3' : (ask e2 (ks.getD j 0) = -1) = False := eq_false hn
            have HOUT : Hid (wr.heap[R]? = some (.cells (intsI e2).toArray 3 (0, 0)) ∧ wr.ownsRow hs 3 1 (.slice (some ⟨gb2, 0, none⟩) wk2.length cap2) wk2.length (intsV wk2) ∧ DW g o d e2 wk2 ∧ wk2.length + 1 + offI e2 ≤ g.length ∧ 2 * offI e2 + wk2.length ≤ 2 * offI e + wk'.length ∧ ask e2 y ≠ -1 ∧ (∀ z, ask e2 z ≠ -1 → z ∉ wk2 → z ≠ y → ∀ x, ask d x = (z : Int) → ask e2 x ≠ -1) ∧ ∀ p, p < j + 1 → ask e2 (ks.getD p 0) ≠ -1) :=
              ⟨hR2, hO2, hD2, hle2, hmu2, hym2, hcl2, fun p hp => by
                rcases Nat.lt_or_ge p j with h | h
                · exact hks2 p h
                · obtain rfl : p = j := by omega
                  exact hn⟩
            clear hcl2 hks2 hD2 hO2 hkd hn hym2 hR2 cyy
            generalize ask e2 (ks.getD j 0) = ax at *
            generalize ks.getD j 0 = x at *
            have hxi : ((x : Int) < (g.length : Int)) = True := eq_true (by omega)
            have hxb : x ≤ 4096 := by omega
            go_wp2
            go_roundw
            case rel =>
              obtain ⟨a2, a3, a4, a5, a6, a7, a8, a9⟩ := HOUT.out
              exact ⟨j + 1, e2, wk2, gb2, cap2, by go_num, by omega, rfl, hT2, a2, a3, a4, a5, a6, a7, a8, a9⟩
            case measure => simp [intOf]; omega
        · have e1 : ((j : Int) < (kn : Int)) = False := eq_false (by omega)
          have HOUT : Hid (wr.heap[R]? = some (.cells (intsI e2).toArray 3 (0, 0)) ∧ wr.ownsRow hs 3 1 (.slice (some ⟨gb2, 0, none⟩) wk2.length cap2) wk2.length (intsV wk2) ∧ DW g o d e2 wk2 ∧ wk2.length + offI e2 ≤ g.length ∧ ∀ z, ask e2 z ≠ -1 → z ∉ wk2 → ∀ x, ask d x = (z : Int) → ask e2 x ≠ -1) :=
            ⟨hR2, hO2, hD2, by omega, fun z hz hn x hx => by
              by_cases hzy : z = y
              · subst hzy
                obtain ⟨p, hp, rfl⟩ := HKA.out x hx
                exact hks2 p (by omega)
              · exact hcl2 z hz hn hzy x hx⟩
          have HMU2 : Hid (2 * offW R wr + wk2.length < 2 * offI e + (wk'.length + 1)) := by rw [Hid, offW_is hR2]; omega
          clear hcl2 hks2 hD2 hO2 hym2 hR2
          go_wp2
          go_roundw
          case rel =>
            obtain ⟨a2, a3, a4, a5, a6⟩ := HOUT.out
            exact ⟨e2, wk2, gb2, cap2, rfl, hT2, a2, a3, a4, a5, a6⟩
          case measure =>
            have a1 := HMU2.out
            have a2 := HMU.out
            show 2 * offW R wr + wk2.length < 2 * offW R _ + (wk'.length + 1)
            omega

end Go.Proofs.Ytonoeodlchkiaaa
