/-
  The document's own memory (layer 3): how it lies, and the contracts of its functions.
-/
import Derived.Test.YtmpfcplkgkhboaaAllocA
import Derived.Maps.OwnOps
import Derived.Maps.Views
namespace Go.Proofs.Ytmpfcplkgkhboaa
open Go.ChangeShapes Go.WideShapes Go.ChangeAt Go.RowKit Go.Maps

/-- Of what was there two blocks alone may have turned. -/
structure Turn (Q M : Nat) (w w' : World) : Prop where
  os : w'.os = w.os
  tape : w'.tape = w.tape
  output : w'.output = w.output
  size : w.heap.size ≤ w'.heap.size
  block : ∀ k, k < w.heap.size → k ≠ Q → k ≠ M → w'.heap[k]? = w.heap[k]?

theorem Turn.refl (Q M : Nat) (w : World) : Turn Q M w w := ⟨rfl, rfl, rfl, Nat.le_refl _, fun _ _ _ _ => rfl⟩
theorem Turn.trans {Q M : Nat} {a b c : World} (h : Turn Q M a b) (k : Turn Q M b c) : Turn Q M a c :=
  ⟨k.os.trans h.os, k.tape.trans h.tape, k.output.trans h.output, Nat.le_trans h.size k.size, fun i h0 h1 h2 => (k.block i (Nat.lt_of_lt_of_le h0 h.size) h1 h2).trans (h.block i h0 h1 h2)⟩
theorem Turn.drew {Q M : Nat} {a w : World} (h : Turn Q M a w) : Turn Q M a w.drew := ⟨h.os, h.tape, h.output, h.size, h.block⟩
theorem Turn.setCell {Q M : Nat} {a w : World} (h : Turn Q M a w) (o : Nat) (u : Value) : Turn Q M a (w.setCell ⟨Q, o, none⟩ u) :=
  h.trans ⟨rfl, rfl, rfl, by simp [World.setCell], fun k _ h1 _ => Below.heap_setCell _ _ _ _ h1⟩
theorem Turn.grown {Q M : Nat} {a w w' : World} (h : Turn Q M a w) (hg : w.grownBy w' (some M)) : Turn Q M a w' :=
  h.trans ⟨hg.os, hg.tape, hg.output, hg.size, fun k h0 _ h2 => hg.block k h0 (fun e => h2 (Option.some.inj e))⟩
theorem Turn.below {Q M N : Nat} {w w' : World} (h : Turn Q M w w') (h0 : N ≤ w.heap.size) (h1 : N ≤ Q) (h2 : N ≤ M) : Below N w w' :=
  ⟨h.os, h.tape, h.output, h.size, fun k hk => h.block k (by omega) (by omega) (by omega)⟩
theorem Turn.mem {Q M B R : Nat} {w w' : World} {c : List Int} {h f : Int} (t : Turn Q M w w') (m : Mem w B R c h f) (h1 : B ≠ Q) (h2 : B ≠ M) (h3 : R ≠ Q) (h4 : R ≠ M) : Mem w' B R c h f :=
  m.on (t.block _ m.ltB h1 h2) (t.block _ m.ltR h3 h4)

/-- What a map holds, key by key. -/
def Reads (D : DataW Unit) (g : Int → Int) : Prop := ∀ a : Int, D.atKey (.int .i64 a) (.lit (.int .i64 0)) = .lit (.int .i64 (g a))

theorem Reads.put {D : DataW Unit} {g : Int → Int} (h : Reads D g) (hD : IsMap D) (a v : Int) : Reads (D.put (.int .i64 a) (.lit (.int .i64 v))) (fun b => if b = a then v else g b) := by
  intro b
  show _ = DataW.lit (.int .i64 (if b = a then v else g b))
  by_cases hb : b = a
  · subst hb
    rw [atKey_put_same hD (by trivial), if_pos rfl]
  · rw [atKey_put_other (by intro e; cases e; exact hb rfl), if_neg hb]
    exact h b

theorem law3 : Keyed Try.prog 3 := int_keyed Try.underlying3
theorem zero3 (w : World) : (zeroValue 3).run Try.prog w = .ok (.int .i64 0) w := by kernel_rfl

/-- The document's memory that lies in block Q, its map in block M, of n entries at most. -/
structure RefM (w : World) (Q M n : Nat) (g : Int → Int) (N h f : Nat) : Prop where
  obj : w.heap[Q]? = some (.cells #[iv N, iv h, iv f, .map (some M)] 36 (0, 0))
  own : ∃ D : DataW Unit, w.ownsMap Try.prog 3 (plainElem Try.prog 3) M n D ∧ Reads D g
  ne : Q ≠ M
  one : 1 ≤ h
  hf : h ≤ f
  fn : f ≤ N
  cap : N ≤ 1048576

namespace RefM
theorem c0 {w : World} {Q M n : Nat} {g : Int → Int} {N h f : Nat} (m : RefM w Q M n g N h f) : w.cell? ⟨Q, 0, none⟩ = some (iv N) := by simp [World.cell?, m.obj]
theorem c1 {w : World} {Q M n : Nat} {g : Int → Int} {N h f : Nat} (m : RefM w Q M n g N h f) : w.cell? ⟨Q, 1, none⟩ = some (iv h) := by simp [World.cell?, m.obj]
theorem c2 {w : World} {Q M n : Nat} {g : Int → Int} {N h f : Nat} (m : RefM w Q M n g N h f) : w.cell? ⟨Q, 2, none⟩ = some (iv f) := by simp [World.cell?, m.obj]
theorem c3 {w : World} {Q M n : Nat} {g : Int → Int} {N h f : Nat} (m : RefM w Q M n g N h f) : w.cell? ⟨Q, 3, none⟩ = some (.map (some M)) := by simp [World.cell?, m.obj]
theorem fr {w : World} {Q M n : Nat} {g : Int → Int} {N h f : Nat} (m : RefM w Q M n g N h f) (o : Nat) : w.frozen? ⟨Q, o, none⟩ = false := by simp [World.frozen?, m.obj]
theorem ltQ {w : World} {Q M n : Nat} {g : Int → Int} {N h f : Nat} (m : RefM w Q M n g N h f) : Q < w.heap.size := (Array.getElem?_eq_some_iff.1 m.obj).1
theorem ltM {w : World} {Q M n : Nat} {g : Int → Int} {N h f : Nat} (m : RefM w Q M n g N h f) : M < w.heap.size := by obtain ⟨D, h, _⟩ := m.own; exact h.lt
theorem on {w w' : World} {Q M n : Nat} {g : Int → Int} {N h f : Nat} (m : RefM w Q M n g N h f) (hQ : w'.heap[Q]? = w.heap[Q]?) (hM : w'.heap[M]? = w.heap[M]?) : RefM w' Q M n g N h f := by
  refine { m with obj := hQ.trans m.obj, own := ?_ }
  obtain ⟨D, ⟨es, cl, a1, a2⟩, r⟩ := m.own
  exact ⟨D, ⟨es, cl, hM.trans a1, a2⟩, r⟩
theorem drew {w : World} {Q M n : Nat} {g : Int → Int} {N h f : Nat} (m : RefM w Q M n g N h f) : RefM w.drew Q M n g N h f := m.on rfl rfl
theorem touch {w w' : World} {Q M n : Nat} {g : Int → Int} {N h f : Nat} {B R : Nat} (m : RefM w Q M n g N h f) (t : Touch B R w w') (h1 : Q ≠ B) (h2 : Q ≠ R) (h3 : M ≠ B) (h4 : M ≠ R) : RefM w' Q M n g N h f :=
  m.on (t.block _ h1 h2) (t.block _ h3 h4)
theorem below {w w' : World} {Q M n : Nat} {g : Int → Int} {N h f : Nat} {X : Nat} (m : RefM w Q M n g N h f) (hb : Below X w w') (h1 : Q < X) (h2 : M < X) : RefM w' Q M n g N h f := m.on (hb.block _ h1) (hb.block _ h2)
theorem mono {w : World} {Q M n : Nat} {g : Int → Int} {N h f : Nat} (m : RefM w Q M n g N h f) {n' : Nat} (hn : n ≤ n') : RefM w Q M n' g N h f := by
  obtain ⟨D, a, r⟩ := m.own
  exact { m with own := ⟨D, a.mono hn, r⟩ }
theorem same {w : World} {Q M n : Nat} {g : Int → Int} {N h f : Nat} (m : RefM w Q M n g N h f) {g' : Int → Int} (hg : ∀ b, g' b = g b) : RefM w Q M n g' N h f := by
  rw [show g' = g from funext hg]; exact m
theorem setH {w : World} {Q M n : Nat} {g : Int → Int} {N h f : Nat} (m : RefM w Q M n g N h f) {x : Nat} (h1 : 1 ≤ x) (h2 : x ≤ f) : RefM (w.setCell ⟨Q, 1, none⟩ (iv x)) Q M n g N x f := by
  refine { m with obj := ?_, own := ?_, one := h1, hf := h2 }
  · rw [setCell_eq_setRow w Q 1 _ _ _ _ m.obj, setRow_heap w Q _ _ _ _ m.obj]; simp
  · obtain ⟨D, ⟨es, cl, a1, a2⟩, r⟩ := m.own
    exact ⟨D, ⟨es, cl, (Below.heap_setCell _ _ _ _ (by exact fun e => m.ne e.symm)).trans a1, a2⟩, r⟩
theorem setF {w : World} {Q M n : Nat} {g : Int → Int} {N h f : Nat} (m : RefM w Q M n g N h f) {x : Nat} (h1 : h ≤ x) (h2 : x ≤ N) : RefM (w.setCell ⟨Q, 2, none⟩ (iv x)) Q M n g N h x := by
  refine { m with obj := ?_, own := ?_, hf := h1, fn := h2 }
  · rw [setCell_eq_setRow w Q 2 _ _ _ _ m.obj, setRow_heap w Q _ _ _ _ m.obj]; simp
  · obtain ⟨D, ⟨es, cl, a1, a2⟩, r⟩ := m.own
    exact ⟨D, ⟨es, cl, (Below.heap_setCell _ _ _ _ (by exact fun e => m.ne e.symm)).trans a1, a2⟩, r⟩
/-- A store in the map. -/
theorem put {w w' : World} {Q M n : Nat} {g : Int → Int} {N h f : Nat} (m : RefM w Q M n g N h f) {D : DataW Unit} (ho : w.ownsMap Try.prog 3 (plainElem Try.prog 3) M n D) (r : Reads D g) {a v : Int}
    (h1 : w'.ownsMap Try.prog 3 (plainElem Try.prog 3) M (n + 1) (D.put (.int .i64 a) (.lit (.int .i64 v)))) (hg : w.grownBy w' (some M)) : RefM w' Q M (n + 1) (fun b => if b = a then v else g b) N h f := by
  refine { m with obj := (hg.block Q m.ltQ (by intro e; exact m.ne (Option.some.inj e))).trans m.obj, own := ⟨_, h1, r.put ?_ a v⟩ }
  obtain ⟨es, cl, _, _, _, e⟩ := ho
  exact ⟨_, e⟩
end RefM

theorem refNew_no (n : Int) (hn : n < 1 ∨ 1048576 < n) (w : World) : Calls Try.prog 9 #[iv n] w fun e w' => e = .returned (.tuple #[.pointer none, iv 1]) ∧ w' = w := by
  by_cases h1 : n < 1
  · go_enter Try.func9, Try.ntmps9
    go_wp2
    go_ret2
    exact ⟨rfl, rfl⟩
  · have h2 : 1048576 < n := by omega
    go_enter Try.func9, Try.ntmps9
    go_wp2
    go_ret2
    exact ⟨rfl, rfl⟩

theorem refNew_is (n : Nat) (h1 : 1 ≤ n) (h2 : n ≤ 1048576) (w : World) : Calls Try.prog 9 #[iv n] w fun e w' => e = .returned (.tuple #[ptr (w.heap.size + 1), iv 0]) ∧
    Below w.heap.size w w' ∧ w'.heap.size = w.heap.size + 2 ∧ RefM w' (w.heap.size + 1) w.heap.size 0 (fun _ => 0) n 1 n := by
  have hmm := @run_makeMap Try.prog
  have e1 : ((n : Int) < 1) = False := by simp; omega
  have e2 : ((1048576 : Int) < n) = False := by simp; omega
  go_enter Try.func9, Try.ntmps9
  go_wp2
  go_ret2
  refine ⟨rfl, ?_, by simp, ?_⟩
  · exact ((Below.refl _ w).alloc (Nat.le_refl _) _).alloc (by simp) _
  · refine ⟨?_, ⟨.map [], (World.ownsMap_made _ _ _ _).alloc _, fun a => rfl⟩, by omega, by omega, by omega, by simp, h2⟩
    rw [heap_new _ _ (by simp)]; simp

theorem refThere_is {w : World} {Q M n : Nat} {g : Int → Int} {N h f : Nat} (m : RefM w Q M n g N h f) (a : Int) : Calls Try.prog 24 #[ptr Q, iv a] w fun e w' => e = .returned (.bool (isCell N h f a)) ∧ w' = w := by
  have k0 := m.c0
  have k1 := m.c1
  have k2 := m.c2
  unfold isCell
  by_cases h1 : 1 ≤ a
  · by_cases h2 : a < (h : Int)
    · have : decide (1 ≤ a ∧ a < (h : Int) ∨ (f : Int) ≤ a ∧ a < (N : Int)) = true := by simp; omega
      rw [this]
      go_enter Try.func24, Try.ntmps24
      go_wp2
      go_ret
      exact ⟨rfl, rfl⟩
    · by_cases h3 : (f : Int) ≤ a
      · by_cases h4 : a < (N : Int)
        · have : decide (1 ≤ a ∧ a < (h : Int) ∨ (f : Int) ≤ a ∧ a < (N : Int)) = true := by simp; omega
          rw [this]
          go_enter Try.func24, Try.ntmps24
          go_wp2
          go_ret
          exact ⟨rfl, rfl⟩
        · have : decide (1 ≤ a ∧ a < (h : Int) ∨ (f : Int) ≤ a ∧ a < (N : Int)) = false := by simp; omega
          rw [this]
          go_enter Try.func24, Try.ntmps24
          go_wp2
          go_ret
          exact ⟨rfl, rfl⟩
      · have : decide (1 ≤ a ∧ a < (h : Int) ∨ (f : Int) ≤ a ∧ a < (N : Int)) = false := by simp; omega
        rw [this]
        go_enter Try.func24, Try.ntmps24
        go_wp2
        go_ret
        exact ⟨rfl, rfl⟩
  · have hfa : ¬ (f : Int) ≤ a := by have := m.one; have := m.hf; omega
    have : decide (1 ≤ a ∧ a < (h : Int) ∨ (f : Int) ≤ a ∧ a < (N : Int)) = false := by simp; omega
    rw [this]
    go_enter Try.func24, Try.ntmps24
    go_wp2
    go_ret
    exact ⟨rfl, rfl⟩

theorem cell_wf {N h f : Nat} {a : Int} (hN : N ≤ 1048576) (h1 : h ≤ N) (ha : isCell N h f a = true) : (Lit.int .i64 a).wf = true := by
  unfold isCell at ha
  have := of_decide_eq_true ha
  exact WalkArith.wf_i64 (by omega)

theorem refLoad_no {w : World} {Q M n : Nat} {g : Int → Int} {N h f : Nat} (m : RefM w Q M n g N h f) (a : Int) (ha : isCell N h f a = false) :
    Calls Try.prog 22 #[ptr Q, iv a] w fun e w' => e = .returned (.tuple #[iv 0, iv 7]) ∧ w' = w := by
  go_enter Try.func22, Try.ntmps22
  go_wp2_with fail
  refine (refThere_is m a).mono ?_; rintro e w' ⟨rfl, rfl⟩
  rw [ha]
  go_wp2
  go_ret2
  exact ⟨rfl, rfl⟩

theorem refLoad_is {w : World} {Q M n : Nat} {g : Int → Int} {N h f : Nat} (m : RefM w Q M n g N h f) (a : Int) (ha : isCell N h f a = true) :
    Calls Try.prog 22 #[ptr Q, iv a] w fun e w' => e = .returned (.tuple #[iv (g a), iv 0]) ∧ w' = w := by
  have k3 := m.c3
  obtain ⟨D, hown, hr⟩ := m.own
  have hkey : keyOf Try.prog 3 (.int .i64 a) = some (.int .i64 a) := keyOf_int_mk Try.underlying3 (cell_wf m.cap (by have := m.hf; have := m.fn; omega) ha)
  go_enter Try.func22, Try.ntmps22
  go_wp2_with fail
  refine (refThere_is m a).mono ?_; rintro e w' ⟨rfl, rfl⟩
  rw [ha]
  go_wp2_with (at_lookup; refine wpList_lookup_own_int _ rfl _ _ 34 rfl 3 3 .i64 law3 Try.underlying34 Try.underlying3 (zero3 _) M n D rfl hown _ _ rfl hkey ?_; intro c hat hwc)
  go_ret2
  rw [hr a] at hat
  injection hat with hat
  injection hat with _ hat
  subst hat
  exact ⟨rfl, rfl⟩

theorem refStore_no {w : World} {Q M n : Nat} {g : Int → Int} {N h f : Nat} (m : RefM w Q M n g N h f) (a v : Int) (ha : isCell N h f a = false) :
    Calls Try.prog 21 #[ptr Q, iv a, iv v] w fun e w' => e = .returned (iv 7) ∧ w' = w := by
  go_enter Try.func21, Try.ntmps21
  go_wp2_with fail
  refine (refThere_is m a).mono ?_; rintro e w' ⟨rfl, rfl⟩
  rw [ha]
  go_wp2
  go_ret
  exact ⟨rfl, rfl⟩

theorem refStore_is {w : World} {Q M n : Nat} {g : Int → Int} {N h f : Nat} (m : RefM w Q M n g N h f) (a v : Int) (hv : (Lit.int .i64 v).wf = true) (hn : n < 1000000000) (ha : isCell N h f a = true) :
    Calls Try.prog 21 #[ptr Q, iv a, iv v] w fun e w' => e = .returned (iv 0) ∧ Turn Q M w w' ∧ RefM w' Q M (n + 1) (fun b => if b = a then v else g b) N h f := by
  have k3 := m.c3
  obtain ⟨D, hown, hr⟩ := m.own
  have hkey : keyOf Try.prog 3 (.int .i64 a) = some (.int .i64 a) := keyOf_int_mk Try.underlying3 (cell_wf m.cap (by have := m.hf; have := m.fn; omega) ha)
  go_enter Try.func21, Try.ntmps21
  go_wp2_with fail
  refine (refThere_is m a).mono ?_; rintro e w' ⟨rfl, rfl⟩
  rw [ha]
  go_wp2_with (at_mapUpdate; refine wpList_mapUpdate_own _ rfl _ _ _ 34 rfl 3 3 law3 Try.underlying34 _ M n D rfl hown (by unfold maxLen; omega) _ _ _ rfl rfl hkey _ [] (plainElem_int Try.underlying3 hv) ?_; intro w1 hown1 hgrow1)
  go_ret
  exact ⟨rfl, (Turn.refl Q M _).grown hgrow1, m.put hown hr hown1 hgrow1⟩

end Go.Proofs.Ytmpfcplkgkhboaa
