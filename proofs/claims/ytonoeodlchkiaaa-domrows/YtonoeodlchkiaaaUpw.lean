/-
  upward and Dominates (layer 7): the iterator's own word, and the contract.
-/
import Derived.Test.YtonoeodlchkiaaaIdm
namespace Go.Proofs.Ytonoeodlchkiaaa
open Go.ChangeShapes Go.WideShapes Go.ChangeAt Go.RowKit Go.Shelf

attribute [local go_sem] Oper.semAt_some

/-- How one asks, from b on: who was met, and where one stands. -/
inductive Chain (d : List Int) (b : Nat) : List Nat → Nat → Prop
  | nil : Chain d b [] b
  | snoc {s : List Nat} {x y : Nat} : Chain d b s x → ask d x = (y : Int) → Chain d b (s ++ [x]) y
theorem Chain.anc {d : List Int} {b : Nat} {s : List Nat} {x : Nat} (h : Chain d b s x) : Anc d b x ∧ ∀ y ∈ s, Anc d b y := by
  induction h with
  | nil => exact ⟨.refl b, fun y hy => by cases hy⟩
  | snoc _ e ih =>
    refine ⟨ih.1.trans (.up e (.refl _)), fun y hy => ?_⟩
    rcases List.mem_append.1 hy with hy | hy
    · exact ih.2 y hy
    · simp at hy; subst hy; exact ih.1
theorem Chain.places {g : List (List Nat)} {o : List Nat} {d : List Int} (hd : Tr g o d) {b : Nat} {s : List Nat} {x : Nat} (h : Chain d b s x) (hb : Told o d b) : Told o d x ∧ plc o.reverse x + s.length ≤ plc o.reverse b := by
  induction h with
  | nil => exact ⟨hb, by simp⟩
  | @snoc s x y _ e ih =>
    have h0 : x ≠ 0 := fun e' => by subst e'; rw [hd.zero] at e; omega
    obtain ⟨y', h1, h2, h3⟩ := hd.next ih.1 h0
    have : y' = y := by rw [e] at h1; omega
    subst this
    refine ⟨h2, ?_⟩
    rw [List.length_append]
    have := ih.2
    simp
    omega
/-- Whom one comes to stands in the whole chain. -/
theorem Chain.all {d : List Int} {b : Nat} {s : List Nat} (h0 : ask d 0 = -1) (h : Chain d b s 0) {a : Nat} (ha : Anc d b a) : a ∈ s ++ [0] := by
  have key : ∀ s x, Chain d b s x → (a ∈ s ∨ Anc d x a) := fun s x hc => by
    induction hc with
    | nil => exact .inr ha
    | @snoc s x y _ e ih =>
      rcases ih with ih | ih
      · exact .inl (by simp [ih])
      · cases ih with
        | refl => exact .inl (by simp)
        | @up _ z _ e2 h2 =>
          have : z = y := by rw [e] at e2; omega
          subst this
          exact .inr h2
  rcases key s 0 h with h' | h'
  · simp [h']
  · cases h' with
    | refl => simp
    | up e _ => rw [h0] at e; omega

set_option maxRecDepth 100000 in
theorem isBlock_is (B cap n : Nat) (x : Int) (w : World) : Calls Try.prog 34 #[.slice (some ⟨B, 0, none⟩) n cap, .int .i64 x] w fun e w' => e = .returned (.bool (decide (0 ≤ x ∧ x < (n : Int)))) ∧ w' = w := by
  by_cases h1 : 0 ≤ x
  · by_cases h2 : x < (n : Int)
    · have e1 : ((0 : Int) ≤ x) = True := eq_true h1
      have e2 : (x < (n : Int)) = True := eq_true h2
      have HF : Hid (decide (0 ≤ x ∧ x < (n : Int)) = true) := by rw [Hid]; simp [h1, h2]
      clear h1 h2
      go_enter Try.func34, Try.ntmps34
      go_wp2
      go_ret
      exact ⟨by rw [HF.out]; rfl, rfl⟩
    · have e1 : ((0 : Int) ≤ x) = True := eq_true h1
      have e2 : (x < (n : Int)) = False := eq_false h2
      have HF : Hid (decide (0 ≤ x ∧ x < (n : Int)) = false) := by rw [Hid]; simp [h2]
      clear h1 h2
      go_enter Try.func34, Try.ntmps34
      go_wp2
      go_ret
      exact ⟨by rw [HF.out]; rfl, rfl⟩
  · have e1 : ((0 : Int) ≤ x) = False := eq_false h1
    have HF : Hid (decide (0 ≤ x ∧ x < (n : Int)) = false) := by rw [Hid]; simp [h1]
    clear h1
    go_enter Try.func34, Try.ntmps34
    go_wp2
    go_ret
    exact ⟨by rw [HF.out]; rfl, rfl⟩
noncomputable def reachedB (n : Nat) (d : List Int) (x : Int) : Bool := @decide (0 ≤ x ∧ x < (n : Int) ∧ (x = 0 ∨ ask d x.toNat ≠ -1)) (Classical.propDecidable _)

set_option maxRecDepth 100000 in
set_option maxHeartbeats 1000000 in
theorem isReached_is (B n : Nat) (hn : n ≤ 4096) (d : List Int) (hl : d.length = n) (x : Int) (w : World) (hB : w.heap[B]? = some (.cells (intsI d).toArray 3 (0, 0))) :
    Calls Try.prog 28 #[.slice (some ⟨B, 0, none⟩) n n, .int .i64 x] w fun e w' => e = .returned (.bool (reachedB n d x)) ∧ w' = w := by
  have hb := isBlock_is B n n x w
  by_cases h1 : 0 ≤ x ∧ x < (n : Int)
  · rw [decide_eq_true h1] at hb
    obtain ⟨k, rfl⟩ := Int.eq_ofNat_of_zero_le h1.1
    have hk : k < n := by omega
    have ck := ints_at hB k (by omega)
    have hki : ((k : Int) < (n : Int)) = True := eq_true (by omega)
    have hkb : k ≤ 4096 := by omega
    by_cases h0 : k = 0
    · subst h0
      have HF : Hid (reachedB n d ((0 : Nat) : Int) = true) := by unfold Hid reachedB; simpa using hk
      clear ck hB
      go_enter Try.func28, Try.ntmps28
      go_wp2_with fail
      refine hb.mono ?_
      rintro e w' ⟨rfl, rfl⟩
      go_wp2
      go_ret
      exact ⟨by rw [HF.out]; rfl, rfl⟩
    · have e0 : ((k : Int) == 0) = false := by simp; omega
      have e0' : ((k : Int) = 0) = False := eq_false (by omega)
      by_cases hv : ask d k = -1
      · have HF : Hid (reachedB n d (k : Int) = false) := @decide_eq_false _ (Classical.propDecidable _) (fun ⟨_, _, h⟩ => h.elim (fun h' => h0 (by omega)) (fun h' => h' (by rw [Int.toNat_natCast]; exact hv)))
        rw [hv] at ck
        clear h1 hB h0
        go_enter Try.func28, Try.ntmps28
        go_wp2_with fail
        refine hb.mono ?_
        rintro e w' ⟨rfl, rfl⟩
        go_wp2
        go_ret
        exact ⟨by rw [HF.out]; rfl, rfl⟩
      · have HF : Hid (reachedB n d (k : Int) = true) := @decide_eq_true _ (Classical.propDecidable _) ⟨by omega, by omega, .inr (by rw [Int.toNat_natCast]; exact hv)⟩
        have e2 : (ask d k != -1) = true := bne_iff_ne.2 hv
        have e2' : (ask d k = -1) = False := eq_false hv
        clear h1 hB h0 hv
        generalize ask d k = v at *
        go_enter Try.func28, Try.ntmps28
        go_wp2_with fail
        refine hb.mono ?_
        rintro e w' ⟨rfl, rfl⟩
        go_wp2
        go_ret
        exact ⟨by rw [HF.out]; rfl, rfl⟩
  · rw [decide_eq_false h1] at hb
    have HF : Hid (reachedB n d x = false) := by unfold Hid reachedB; simp; intro a b; exact absurd ⟨a, b⟩ h1
    clear hB h1
    go_enter Try.func28, Try.ntmps28
    go_wp2_with fail
    refine hb.mono ?_
    rintro e w' ⟨rfl, rfl⟩
    go_wp2
    go_ret
    exact ⟨by rw [HF.out]; rfl, rfl⟩

theorem upward_in (k : Nat) (a : Option Addr) (len cap : Nat) (b : Int) (w : World) :
    CallsIn Fence.wide k Try.prog 29 #[.slice a len cap, .int .i64 b] w fun e w' => e = .returned (.func (.func 48) #[] #[.pointer (some ⟨w.heap.size, 0, none⟩), .pointer (some ⟨w.heap.size + 1, 0, none⟩)]) ∧
      w'.heap.size = w.heap.size + 2 ∧ Below w.heap.size w w' ∧ w'.heap[w.heap.size]? = some (.cells #[.slice a len cap] 25 (0, 0)) ∧ w'.heap[w.heap.size + 1]? = some (.cells #[.int .i64 b] 3 (0, 0)) := by
  refine callsIn_of_wp Try.func29 rfl trivial ?_ rfl
  simp only [Try.ntmps29, List.size_toArray, List.length_cons, List.length_nil, Nat.reduceAdd, Nat.reduceSub, Array.replicate_succ, Array.replicate_zero, List.push_toArray, List.append_toArray, List.nil_append, List.cons_append]
  gi_wp2
  go_ret
  refine ⟨rfl, by simp, ((Below.refl _ w).alloc (Nat.le_refl _) _).alloc (by simp) _, ?_, ?_⟩
  · rw [Below.heap_alloc _ _ _ (by simp)]; exact World.alloc_heap_new w _
  · have := World.alloc_heap_new (w.alloc (.cells #[.slice a len cap] 25)) (.cells #[.int .i64 b] 3)
    rwa [World.size_alloc] at this

set_option maxRecDepth 100000 in
set_option maxHeartbeats 2000000 in
/-- Who is come to by asking, from a told block on. -/
theorem upward_gives (g : List (List Nat)) (o : List Nat) (ho : Ord g o) (hmost : g.length ≤ 4096) (d : List Int) (hfin : Fin g o d) (Bi Bb B b : Nat) (hb : b ∈ o) (W1 : World) (L : Nat)
    (hi : W1.heap[Bi]? = some (.cells #[.slice (some ⟨B, 0, none⟩) g.length g.length] 25 (0, 0))) (hbb : W1.heap[Bb]? = some (.cells #[.int .i64 (b : Int)] 3 (0, 0))) :
    Gives 48 #[.pointer (some ⟨Bi, 0, none⟩), .pointer (some ⟨Bb, 0, none⟩)] (fun x : Nat => #[.int .i64 (x : Int)]) (fun c => c = Bb) (fun W => W.heap[Bi]? = some (.cells #[.slice (some ⟨B, 0, none⟩) g.length g.length] 25 (0, 0)) ∧ W.heap[B]? = some (.cells (intsI d).toArray 3 (0, 0)))
      (fun s x => Chain d b s x ∧ x ∈ o) (fun s _ => ∃ s', s = s' ++ [0] ∧ Chain d b s' 0) W1 L 0 := by
  intro J Jx htu hsz hrd hY h0
  have HY : Hid (∀ s x W, J s W → (Chain d b s x ∧ x ∈ o) → YieldAt Fence.wide 0 Try.prog L #[.int .i64 ((x : Nat) : Int)] W fun e W' => (e = .returned (.bool true) ∧ J (s ++ [x]) W' ∧ W'.heap[Bb]? = W.heap[Bb]?) ∨ (e = .returned (.bool false) ∧ Jx W')) := fun s x W hJ hx => (hY s x W hJ hx (hsz s W hJ)).mono fun e W' h => h.imp (fun h => ⟨h.1, h.2.1, h.2.2.2 Bb rfl⟩) id
  have HRD : Hid (∀ s W, J s W → W.heap[Bi]? = some (.cells #[.slice (some ⟨B, 0, none⟩) g.length g.length] 25 (0, 0)) ∧ W.heap[B]? = some (.cells (intsI d).toArray 3 (0, 0))) := hrd
  have HTU : Hid (∀ s W W', J s W → Turns (fun c => c = Bb) W W' → J s W') := htu
  have c0 : W1.cell? ⟨Bi, 0, none⟩ = some (.slice (some ⟨B, 0, none⟩) g.length g.length) := cell_of hi 0
  have hbt := hfin.told hb
  have hpb := plc_le_len ho b
  have HF := hide hfin
  have HO := hide ho
  clear hY hrd htu hsz hi hfin ho
  refine callsIn_of_wp Try.func48 rfl trivial ?_ rfl
  simp only [Try.ntmps48, List.size_toArray, List.length_cons, List.length_nil, Nat.reduceAdd, Nat.reduceSub, Array.replicate_succ, Array.replicate_zero, List.push_toArray, List.append_toArray, List.nil_append, List.cons_append]
  gi_wp2
  clear c0
  gi_loopw [6] (fun i wr => ∃ (k : Nat) (s : List Nat) (v : Int), i = .int .i64 k ∧ k ≤ g.length ∧ s.length = k ∧ J s wr ∧ wr.heap[Bb]? = some (.cells #[.int .i64 v] 3 (0, 0)) ∧ ((∃ x : Nat, v = (x : Int) ∧ Chain d b s x) ∨ (v = -1 ∧ ∃ s', s = s' ++ [0] ∧ Chain d b s' 0))) (fun i _ => g.length - (intOf i).toNat)
  case atStart => exact ⟨0, [], b, rfl, Nat.zero_le _, rfl, h0, hbb, .inl ⟨b, rfl, .nil⟩⟩
  case round =>
    clear h0 hbb
    obtain ⟨k, s, v, rfl, hk, hsl, hJ, hv, hor⟩ := hrel
    have c2 : wr.cell? ⟨Bb, 0, none⟩ = some (.int .i64 v) := cell_of hv 0
    obtain ⟨hbi, hbd⟩ := HRD.out _ _ hJ
    have c1 : wr.cell? ⟨Bi, 0, none⟩ = some (.slice (some ⟨B, 0, none⟩) g.length g.length) := cell_of hbi 0
    have HIB := hide (isBlock_is B g.length g.length v wr)
    rcases hor with ⟨x, rfl, hch⟩ | ⟨rfl, hend⟩
    · obtain ⟨hxt, hxp⟩ := hch.places HF.out.toTr hbt
      have hx0 := (HO.out.pos x).1 hxt.1
      have hxl := HO.out.lt x hxt.1
      have e1 : ((k : Int) < (g.length : Int)) = True := by simp; omega
      rw [decide_eq_true ⟨by omega, by omega⟩] at HIB
      have HCH := hide hch
      have HX := hide hxt
      clear hch hxp hx0 hbi hbd
      gi_wp2
      refine ⟨trivial, rfl, (callsIn_wide.2 HIB.out).mono ?_⟩
      rintro e w' ⟨rfl, rfl⟩
      clear HIB
      obtain ⟨fn, tmps, assign, body, hy, hR⟩ := HY.out _ _ _ hJ ⟨HCH.out, HX.out.1⟩
      gi_wp2
      refine ⟨rfl, hR.mono ?_⟩
      rintro e W3 (⟨rfl, hJ3, hk3⟩ | ⟨rfl, hJx3⟩)
      · clear hR hy
        have hv3 := hk3.trans hv
        obtain ⟨hbi3, hbd3⟩ := HRD.out _ _ hJ3
        have d1 : W3.cell? ⟨Bi, 0, none⟩ = some (.slice (some ⟨B, 0, none⟩) g.length g.length) := cell_of hbi3 0
        have d2 : W3.cell? ⟨Bb, 0, none⟩ = some (.int .i64 (x : Int)) := cell_of hv3 0
        have d3 := ints_at hbd3 x (by rw [HF.out.len]; exact hxl)
        have f3 := frozen_of hv3 0
        have HJ4 := hide (HTU.out _ _ _ hJ3 (Turns.setCell (Q := fun c => c = Bb) W3 ⟨Bb, 0, none⟩ (.int .i64 (ask d x)) rfl))
        have HV4 : Hid ((W3.setCell ⟨Bb, 0, none⟩ (.int .i64 (ask d x))).heap[Bb]? = some (.cells #[.int .i64 (ask d x)] 3 (0, 0))) := heap_set_same (cs := [.int .i64 (x : Int)]) hv3 0 (.int .i64 (ask d x))
        have HOR : Hid ((∃ y : Nat, ask d x = (y : Int) ∧ Chain d b (s ++ [x]) y) ∨ (ask d x = -1 ∧ ∃ s', s ++ [x] = s' ++ [0] ∧ Chain d b s' 0)) := by
          by_cases hx00 : x = 0
          · subst hx00; exact .inr ⟨HF.out.zero, s, rfl, HCH.out⟩
          · obtain ⟨y, h1, h2, h3⟩ := HF.out.toTr.next HX.out hx00
            exact .inl ⟨y, h1, .snoc HCH.out h1⟩
        have hxi : ((x : Int) < (g.length : Int)) = True := eq_true (by omega)
        have hxb : x ≤ 4096 := by omega
        have hkl : k < g.length := by
          have := (HCH.out.places HF.out.toTr hbt).2
          have h9 := (HO.out.pos x).1 HX.out.1
          omega
        clear hv3 hbi3 hbd3 hJ3 hv hJ c1 c2
        generalize ask d x = av at *
        gi_wp2
        exact ⟨⟨k + 1, s ++ [x], av, by go_num, by omega, by rw [List.length_append, hsl]; rfl, HJ4.out, HV4.out, HOR.out⟩, by simp [intOf]; omega⟩
      · gi_wp2
        refine bodyPost_ret (results_none rfl _ _ _) rfl ?_
        exact ⟨⟨_, rfl⟩, .inr hJx3⟩
    · by_cases hkl : k < g.length
      · have e1 : ((k : Int) < (g.length : Int)) = True := by simp; omega
        rw [decide_eq_false (by omega)] at HIB
        have HE := hide hend
        clear hend hbi hbd
        gi_wp2
        refine ⟨trivial, rfl, (callsIn_wide.2 HIB.out).mono ?_⟩
        rintro e w' ⟨rfl, rfl⟩
        clear HIB
        gi_wp2
        refine ⟨(fun f hf => nomatch hf), ?_⟩
        gi_wp2
        refine bodyPost_ret (results_none rfl _ _ _) rfl ?_
        exact ⟨⟨_, rfl⟩, .inl ⟨s, HE.out, hJ⟩⟩
      · have e1 : ((k : Int) < (g.length : Int)) = False := by simp; omega
        have HE := hide hend
        clear hend HIB hbi hbd
        gi_wp2
        go_end0
        exact ⟨⟨_, rfl⟩, .inl ⟨s, HE.out, hJ⟩⟩
theorem enter48 (args : Array Value) (w : World) : (callFunc 48 args).run Try.prog w = .ok (.enter 48 args) w := by simp [go_sem]

end Go.Proofs.Ytonoeodlchkiaaa
