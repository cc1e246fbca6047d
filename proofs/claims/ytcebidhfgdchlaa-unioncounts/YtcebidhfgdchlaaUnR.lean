/-
  Sets in memory (layer 8): the iterator over a ring.
-/
import Derived.Test.YtcebidhfgdchlaaUnA
namespace Go.Proofs.Ytcebidhfgdchlaa
open Go.ChangeShapes Go.WideShapes Go.ChangeAt Go.RowKit Go.Shelf Go.Maps

attribute [local go_sem] Oper.semAt_some

theorem Nx.at {st : List Th} {a b : Nat} {t : List Nat} (h : Nx st a t b) : ∀ (s : List Nat) (x : Nat) (u : List Nat), s ++ x :: u = a :: t → (at_ st x).next = u.headD b := by
  induction h with
  | nil e =>
    intro s x u he
    cases s with
    | nil => injection he with e1 e2; subst e1 e2; exact e
    | cons y s => injection he with e1 e2; simp at e2
  | @cons a z b t e k ih =>
    intro s x u he
    cases s with
    | nil => injection he with e1 e2; subst e1 e2; exact e
    | cons y s => injection he with e1 e2; exact ih s x u e2
theorem ring_in (n : Nat) (X : Nat) (i : Int) (w : World) :
    CallsIn Fence.wide n Try.prog 33 #[.pointer (some ⟨X, 0, none⟩), .int .i64 i] w fun e w' => e = .returned (.func (.func 39) #[] #[.pointer (some ⟨w.heap.size + 1, 0, none⟩), .pointer (some ⟨w.heap.size, 0, none⟩)]) ∧
      w'.heap.size = w.heap.size + 2 ∧ Below w.heap.size w w' ∧ w'.heap[w.heap.size]? = some (.cells #[.pointer (some ⟨X, 0, none⟩)] 24 (0, 0)) ∧ w'.heap[w.heap.size + 1]? = some (.cells #[.int .i64 i] 3 (0, 0)) := by
  refine callsIn_of_wp Try.func33 rfl trivial ?_ rfl
  simp only [Try.ntmps33, List.size_toArray, List.length_cons, List.length_nil, Nat.reduceAdd, Nat.reduceSub, Array.replicate_succ, Array.replicate_zero, List.push_toArray, List.append_toArray, List.nil_append, List.cons_append]
  gi_wp2
  go_ret
  refine ⟨rfl, by simp, ((Below.refl _ w).alloc (Nat.le_refl _) _).alloc (by simp) _, ?_, ?_⟩
  · rw [Below.heap_alloc _ _ _ (by simp)]; exact World.alloc_heap_new w _
  · have := World.alloc_heap_new (w.alloc (.cells #[.pointer (some ⟨X, 0, none⟩)] 24)) (.cells #[.int .i64 i] 3)
    rwa [World.size_alloc] at this

set_option maxRecDepth 100000 in
set_option maxHeartbeats 2000000 in
/-- Over one ring, from a thing on. -/
theorem ring_gives (st : List Th) (hl : st.length ≤ 1000000) (i : Nat) (t : List Nat) (hr : Ring st i t) (hm : ∀ j, j ∈ i :: t → j < st.length) (Bat Bx X TB cap : Nat) (W1 : World) (L : Nat) :
    Gives 39 #[.pointer (some ⟨Bat, 0, none⟩), .pointer (some ⟨Bx, 0, none⟩)] (fun x : Nat => #[.int .i64 (at_ st x).key]) (fun _ => False) (fun W => W.heap[Bat]? = some (.cells #[.int .i64 (i : Int)] 3 (0, 0)) ∧ W.heap[Bx]? = some (.cells #[.pointer (some ⟨X, 0, none⟩)] 24 (0, 0)) ∧ W.cell? ⟨X, 2, none⟩ = some (.slice (some ⟨TB, 0, none⟩) st.length cap) ∧ ∀ k f, k < st.length → f < 5 → W.cell? ⟨TB, k * 5 + f, none⟩ = (tcells (at_ st k))[f]?)
      (fun s x => ∃ u, s ++ x :: u = i :: t) (fun s _ => s = i :: t) W1 L 0 := by
  intro J Jx htu hsz hrd hY h0
  have HY : Hid (∀ s x W, J s W → (∃ u, s ++ x :: u = i :: t) → YieldAt Fence.wide 0 Try.prog L #[.int .i64 (at_ st x).key] W fun e W' => (e = .returned (.bool true) ∧ J (s ++ [x]) W') ∨ (e = .returned (.bool false) ∧ Jx W')) := fun s x W hJ hx => (hY s x W hJ hx (hsz s W hJ)).mono fun e W' h => h.imp (fun h => ⟨h.1, h.2.1⟩) id
  have HRD : Hid (∀ s W, J s W → W.heap[Bat]? = some (.cells #[.int .i64 (i : Int)] 3 (0, 0)) ∧ W.heap[Bx]? = some (.cells #[.pointer (some ⟨X, 0, none⟩)] 24 (0, 0)) ∧ W.cell? ⟨X, 2, none⟩ = some (.slice (some ⟨TB, 0, none⟩) st.length cap) ∧ ∀ k f, k < st.length → f < 5 → W.cell? ⟨TB, k * 5 + f, none⟩ = (tcells (at_ st k))[f]?) := hrd
  have c0 : W1.cell? ⟨Bat, 0, none⟩ = some (.int .i64 (i : Int)) := cell_of (hrd _ _ h0).1 0
  have HM := hide hm
  have HR := hide hr
  have HIDX : Hid (∀ (s : List Nat) (x : Nat) (u : List Nat), s ++ x :: u = i :: t → (i :: t).idxOf x = s.length) := fun s x u he => by
    have hn := hr.2
    rw [← he] at hn ⊢
    have hx : x ∉ s := fun hc => (List.nodup_append.1 hn).2.2 x hc x (by simp) rfl
    rw [List.idxOf_append, if_neg hx, List.idxOf_cons]; simp
  clear hY hrd htu hsz hm hr
  refine callsIn_of_wp Try.func39 rfl trivial ?_ rfl
  simp only [Try.ntmps39, List.size_toArray, List.length_cons, List.length_nil, Nat.reduceAdd, Nat.reduceSub, Array.replicate_succ, Array.replicate_zero, List.push_toArray, List.append_toArray, List.nil_append, List.cons_append]
  gi_wp2
  clear c0
  gi_loopw [4] (fun a wr => ∃ (x : Nat) (s u : List Nat), a = .int .i64 (x : Int) ∧ s ++ x :: u = i :: t ∧ J s wr) (fun a _ => (i :: t).length - (i :: t).idxOf (Int.toNat (RowKit.intOf a)))
  case atStart => exact ⟨i, [], t, rfl, rfl, h0⟩
  case round =>
    clear h0
    obtain ⟨x, s, u, rfl, hsu, hJ⟩ := hrel
    obtain ⟨hbat, hbx, hx2, hcl⟩ := HRD.out _ _ hJ
    have hxl := HM.out x (by rw [← hsu]; simp)
    have c1 : wr.cell? ⟨Bx, 0, none⟩ = some (.pointer (some ⟨X, 0, none⟩)) := cell_of hbx 0
    have ck : wr.cell? ⟨TB, x * 5, none⟩ = some (.int .i64 (at_ st x).key) := hcl x 0 hxl (by decide)
    have hxi : ((x : Int) < (st.length : Int)) = True := eq_true (by omega)
    have hxb : x ≤ 1000000 := by omega
    obtain ⟨fn, tmps, assign, body, hy, hR⟩ := HY.out _ _ _ hJ ⟨u, hsu⟩
    have hnx := HR.out.1.at s x u hsu
    have HSU := hide hsu
    have HNX := hide hnx
    clear hcl hsu hnx hbat hbx
    generalize (at_ st x).key = kx at *
    gi_wp2
    refine ⟨rfl, hR.mono ?_⟩
    rintro e W3 (⟨rfl, hJ3⟩ | ⟨rfl, hJx3⟩)
    · clear hR hy ck c1 hx2
      obtain ⟨hbat, hbx, hx2, hcl⟩ := HRD.out _ _ hJ3
      have c1 : W3.cell? ⟨Bx, 0, none⟩ = some (.pointer (some ⟨X, 0, none⟩)) := cell_of hbx 0
      have c0 : W3.cell? ⟨Bat, 0, none⟩ = some (.int .i64 (i : Int)) := cell_of hbat 0
      have cn : W3.cell? ⟨TB, x * 5 + 2, none⟩ = some (.int .i64 ((at_ st x).next : Int)) := hcl x 2 hxl (by decide)
      rw [HNX.out] at cn
      clear hcl hbat hbx HNX
      cases u with
      | nil =>
        have HE : Hid (s ++ [x] = i :: t) := HSU.out
        have cn' : W3.cell? ⟨TB, x * 5 + 2, none⟩ = some (.int .i64 (i : Int)) := cn
        clear cn
        gi_wp2
        refine bodyPost_ret (results_none rfl _ _ _) rfl ?_
        exact ⟨⟨_, rfl⟩, .inl ⟨_, HE.out, hJ3⟩⟩
      | cons y u =>
        have hyi : y ≠ i := fun e => by
          have hn := HR.out.2
          have h1 := HIDX.out (s ++ [x]) y u (by rw [← HSU.out]; simp)
          rw [e] at h1
          simp at h1
        have HNE : Hid ((s ++ [x]) ++ y :: u = i :: t) := by rw [Hid, ← HSU.out]; simp
        have HD : Hid ((i :: t).length - (i :: t).idxOf y < (i :: t).length - (i :: t).idxOf x) := by
          rw [Hid, HIDX.out (s ++ [x]) y u HNE.out, HIDX.out s x (y :: u) HSU.out, ← HSU.out]
          simp
          omega
        have cn' : W3.cell? ⟨TB, x * 5 + 2, none⟩ = some (.int .i64 (y : Int)) := cn
        have q1 : ((y : Int) == (i : Int)) = false := beq_eq_false_iff_ne.2 (by omega)
        have q1' : ((y : Int) = (i : Int)) = False := eq_false (by omega)
        clear cn hyi
        gi_wp2
        refine ⟨⟨y, s ++ [x], u, rfl, HNE.out, hJ3⟩, ?_⟩
        exact HD.out
    · gi_wp2
      go_end0
      exact ⟨⟨_, rfl⟩, .inr hJx3⟩
theorem enter39 (args : Array Value) (w : World) : (callFunc 39 args).run Try.prog w = .ok (.enter 39 args) w := by simp [go_sem]

end Go.Proofs.Ytcebidhfgdchlaa
