/-
  Blocks as they are left (layer 6): the iterator's own word.
-/
import Derived.Test.YtonoeodlchkiaaaIter
namespace Go.Proofs.Ytonoeodlchkiaaa
open Go.ChangeShapes Go.WideShapes Go.ChangeAt Go.RowKit Go.Shelf

theorem run_store_fn (P : Program) (w : World) (a : Addr) (m : Mode) (fn : Fn) (first captured : Array Value) : (store a (.func fn first captured) m).run P w = stored P w a (.func fn first captured) m := run_store P w a _ m rfl
attribute [local go_sem] Oper.semAt_some run_store_fn

theorem ret_bool {a b : Bool} (h : a = b) : Ending.returned (.bool a) = .returned (.bool b) := by rw [h]
set_option maxRecDepth 100000 in
set_option maxHeartbeats 2000000 in
theorem leaving_gives (av : Option Addr) (blk off cap : Nat) (hd : Nat → Hdr) (g : List (List Nat)) (hgr : Okay g) (M Bm Bg Bs start : Nat) (m : List Bool) (W1 : World) (L : Nat) (hlen : m.length = g.length) (hst : start < g.length) (hne : M ≠ Bm ∧ M ≠ Bg)
    (hbm : W1.heap[Bm]? = some (.cells #[.slice (some ⟨M, 0, none⟩) g.length g.length] 34 (0, 0))) (hbg : W1.heap[Bg]? = some (.cells #[.slice av g.length cap] 22 (0, 0))) (hbs : W1.heap[Bs]? = some (.cells #[.int .i64 (start : Int)] 3 (0, 0))) (hm : W1.heap[M]? = some (flagsO m)) :
    Gives 51 #[.pointer (some ⟨Bm, 0, none⟩), .pointer (some ⟨Bg, 0, none⟩), .pointer (some ⟨Bs, 0, none⟩)] (fun x : Nat => #[.int .i64 (x : Int)]) (fun b => b = M ∨ b = Bm ∨ b = Bg ∨ b = W1.heap.size ∨ b = W1.heap.size + 1) (fun W => GAt W av blk off hd (castG g)) (fun s x => x < g.length ∧ s.length < g.length) (fun o W => ∃ m', Walk g [start] m m' o ∧ W.heap[M]? = some (flagsO m')) W1 L 2 := by
  intro J Jx htu hsz hrd hY h0
  have l1 := lt_of hbm
  have l2 := lt_of hbg
  have l3 := lt_of hbs
  have l4 := lt_of hm
  have HV := visit_is av blk off cap hd g hgr M Bm Bg (W1.heap.size + 1) W1.heap.size L ⟨hne.1, hne.2, by omega, by omega⟩ (fun b => b = M ∨ b = Bm ∨ b = Bg ∨ b = W1.heap.size ∨ b = W1.heap.size + 1) ⟨.inl rfl, .inr (.inl rfl), .inr (.inr (.inl rfl)), .inr (.inr (.inr (.inr rfl))), .inr (.inr (.inr (.inl rfl)))⟩
    g.length (fun s W => J s W ∧ W1.heap.size + 2 ≤ W.heap.size) (fun s W W' h ht => ⟨htu s W W' h.1 ht, Nat.le_trans h.2 ht.size⟩) (fun s W h => hrd s W h.1) Jx
    (fun s x W h hx hc => (hY s x W h.1 ⟨hx, hc⟩ h.2).mono fun e W' h' => h'.imp (fun h'' => ⟨h''.1, ⟨h''.2.1, Nat.le_trans h.2 h''.2.2.1⟩, h''.2.2.1, h''.2.2.2⟩) id)
    (unmetN m + 1) m start []
  have c1 : W1.cell? ⟨Bs, 0, none⟩ = some (.int .i64 (start : Int)) := cell_of hbs 0
  refine callsIn_of_wp Try.func51 rfl trivial ?_ rfl
  simp only [Try.ntmps51, List.size_toArray, List.length_cons, List.length_nil, Nat.reduceAdd, Nat.reduceSub, Array.replicate_succ, Array.replicate_zero, List.push_toArray, List.append_toArray, List.nil_append, List.cons_append]
  have HC : Hid (∀ W2 : World, Below W1.heap.size W1 W2 → W2.heap.size = W1.heap.size + 2 → W2.heap[W1.heap.size]? = some (.cells #[.func (.yield L) #[] #[]] 62 (0, 0)) → W2.heap[W1.heap.size + 1]? = some (.cells #[.func (.func 52) #[] #[.pointer (some ⟨Bm, 0, none⟩), .pointer (some ⟨Bg, 0, none⟩), .pointer (some ⟨W1.heap.size + 1, 0, none⟩), .pointer (some ⟨W1.heap.size, 0, none⟩)]] 62 (0, 0)) →
      CallsIn Fence.wide 0 Try.prog 52 #[.int .i64 (start : Int), .pointer (some ⟨Bm, 0, none⟩), .pointer (some ⟨Bg, 0, none⟩), .pointer (some ⟨W1.heap.size + 1, 0, none⟩), .pointer (some ⟨W1.heap.size, 0, none⟩)] W2 fun e W' =>
        (e = .returned (.bool true) ∧ ∃ m' o, Walk g [start] m m' o ∧ J o W' ∧ W'.heap[M]? = some (flagsO m')) ∨ (e = .returned (.bool false) ∧ Jx W')) := fun W2 hb2 hs2 k1 k2 =>
    (HV W2 (by omega) (by have := unmetN_le_len m; simp only [List.length_nil]; omega) hst ⟨htu _ _ _ h0 ⟨hb2.os, hb2.tape, hb2.output, hb2.size, fun b hb _ => hb2.block b hb⟩, by omega⟩ ⟨hlen, (hb2.block _ l1).trans hbm, (hb2.block _ l2).trans hbg, k2, k1, (hb2.block _ l4).trans hm⟩).mono fun e W' h => h.imp (fun h => ⟨h.1, by
      obtain ⟨m', o, h1, h2, h3⟩ := h.2
      exact ⟨m', o, h1, by simpa using h2.1, h3.met⟩⟩) id
  clear HV hY htu hrd hsz h0
  gi_wp2
  refine ⟨trivial, rfl, (HC.out _ ?_ ?_ ?_ ?_).mono ?_⟩
  · exact ((Below.refl _ W1).alloc (Nat.le_refl _) _).alloc (by simp) _
  · simp
  · exact (Below.heap_alloc _ _ _ (by simp)).trans (World.alloc_heap_new W1 _)
  · have := World.alloc_heap_new (W1.alloc (.cells #[.func (.yield L) #[] #[]] 62)) (.cells #[.func (.func 52) #[] #[.pointer (some ⟨Bm, 0, none⟩), .pointer (some ⟨Bg, 0, none⟩), .pointer (some ⟨W1.heap.size + 1, 0, none⟩), .pointer (some ⟨W1.heap.size, 0, none⟩)]] 62)
    rwa [World.size_alloc] at this
  · rintro e W3 (⟨rfl, m', o, hw, hJ, hm3⟩ | ⟨rfl, hx⟩)
    · gi_wp2
      go_end0
      exact ⟨⟨_, rfl⟩, .inl ⟨o, ⟨m', hw, hm3⟩, hJ⟩⟩
    · gi_wp2
      go_end0
      exact ⟨⟨_, rfl⟩, .inr hx⟩

/-- The maker of the iterator: three boxes. -/
theorem leaving_in (n : Nat) (a b : Option Addr) (len cap len2 cap2 : Nat) (s : Int) (w : World) :
    CallsIn Fence.wide n Try.prog 37 #[.slice a len cap, .int .i64 s, .slice b len2 cap2] w fun e w' => e = .returned (.func (.func 51) #[] #[.pointer (some ⟨w.heap.size + 2, 0, none⟩), .pointer (some ⟨w.heap.size, 0, none⟩), .pointer (some ⟨w.heap.size + 1, 0, none⟩)]) ∧
      w'.heap.size = w.heap.size + 3 ∧ Below w.heap.size w w' ∧ w'.heap[w.heap.size]? = some (.cells #[.slice a len cap] 22 (0, 0)) ∧ w'.heap[w.heap.size + 1]? = some (.cells #[.int .i64 s] 3 (0, 0)) ∧ w'.heap[w.heap.size + 2]? = some (.cells #[.slice b len2 cap2] 34 (0, 0)) := by
  refine callsIn_of_wp Try.func37 rfl trivial ?_ rfl
  simp only [Try.ntmps37, List.size_toArray, List.length_cons, List.length_nil, Nat.reduceAdd, Nat.reduceSub, Array.replicate_succ, Array.replicate_zero, List.push_toArray, List.append_toArray, List.nil_append, List.cons_append]
  gi_wp2
  go_ret
  refine ⟨rfl, by simp, (((Below.refl _ w).alloc (Nat.le_refl _) _).alloc (by simp) _).alloc (by simp; omega) _, ?_, ?_, ?_⟩
  · rw [Below.heap_alloc _ _ _ (by simp; omega), Below.heap_alloc _ _ _ (by simp)]; exact World.alloc_heap_new w _
  · rw [Below.heap_alloc _ _ _ (by simp)]
    have := World.alloc_heap_new (w.alloc (.cells #[.slice a len cap] 22)) (.cells #[.int .i64 s] 3)
    rwa [World.size_alloc] at this
  · have := World.alloc_heap_new ((w.alloc (.cells #[.slice a len cap] 22)).alloc (.cells #[.int .i64 s] 3)) (.cells #[.slice b len2 cap2] 34)
    rwa [World.size_alloc, World.size_alloc] at this
theorem edges_in (n : Nat) (a : Option Addr) (len cap : Nat) (w : World) :
    CallsIn Fence.wide n Try.prog 35 #[.slice a len cap] w fun e w' => e = .returned (.func (.func 50) #[] #[.pointer (some ⟨w.heap.size, 0, none⟩)]) ∧ w' = w.alloc (.cells #[.slice a len cap] 22) := by
  refine callsIn_of_wp Try.func35 rfl trivial ?_ rfl
  simp only [Try.ntmps35, List.size_toArray, List.length_cons, List.length_nil, Nat.reduceAdd, Nat.reduceSub, Array.replicate_succ, Array.replicate_zero, List.push_toArray, List.append_toArray, List.nil_append, List.cons_append]
  gi_wp2
  go_ret
  exact ⟨rfl, rfl⟩
theorem enter40 (args : Array Value) (w : World) : (callFunc 50 args).run Try.prog w = .ok (.enter 50 args) w := by simp [go_sem]
theorem enter41 (args : Array Value) (w : World) : (callFunc 51 args).run Try.prog w = .ok (.enter 51 args) w := by simp [go_sem]
theorem isBlock_any (a : Option Addr) (len cap : Nat) (x : Int) (w : World) : Calls Try.prog 36 #[.slice a len cap, .int .i64 x] w fun e w' => e = .returned (.bool (decide (0 ≤ x ∧ x < (len : Int)))) ∧ w' = w := by
  by_cases h1 : 0 ≤ x
  · by_cases h2 : x < (len : Int)
    · rw [decide_eq_true ⟨h1, h2⟩]
      have e2 : decide (x < (len : Int)) = true := by simpa using h2
      go_enter Try.func36, Try.ntmps36
      go_wp2
      go_ret
      exact ⟨ret_bool (by simp), rfl⟩
    · rw [decide_eq_false (fun h => h2 h.2)]
      go_enter Try.func36, Try.ntmps36
      go_wp2
      go_ret
      exact ⟨ret_bool (by simp), rfl⟩
  · rw [decide_eq_false (fun h => h1 h.1)]
    go_enter Try.func36, Try.ntmps36
    go_wp2
    go_ret
    exact ⟨rfl, rfl⟩

/-- The blocks that a range over blocks leans on. -/
def lvP (M Bm Bg h : Nat) (b : Nat) : Prop := b = M ∨ b = Bm ∨ b = Bg ∨ (h ≤ b ∧ b < h + 4)
/-- A loop over blocks as they are left. -/
theorem range_leaving {n : Nat} {g' : Operand} {ps : Array Tmp} {assign body : Code} {Q : Exit → Act → World → Prop} {a : Act} {w : World} {M Bm Bg Bs : Nat}
    (hg : a.eval g' = .func (.func 51) #[] #[.pointer (some ⟨Bm, 0, none⟩), .pointer (some ⟨Bg, 0, none⟩), .pointer (some ⟨Bs, 0, none⟩)]) (hps : ps.size = 1)
    {av : Option Addr} {blk off cap : Nat} {hd : Nat → Hdr} {g : List (List Nat)} (hgr : Okay g) {start : Nat} {m : List Bool} (hlen : m.length = g.length) (hst : start < g.length) (hne : M ≠ Bm ∧ M ≠ Bg)
    (hbm : w.heap[Bm]? = some (.cells #[.slice (some ⟨M, 0, none⟩) g.length g.length] 34 (0, 0))) (hbg : w.heap[Bg]? = some (.cells #[.slice av g.length cap] 22 (0, 0))) (hbs : w.heap[Bs]? = some (.cells #[.int .i64 (start : Int)] 3 (0, 0))) (hm : w.heap[M]? = some (flagsO m))
    (I : List Nat → World → Prop) (hI : ∀ s W W', I s W → Turns (lvP M Bm Bg w.heap.size) W W' → I s W') (hRd : ∀ s W, I s W → GAt W av blk off hd (castG g)) (h0 : I [] w)
    (hround : ∀ (l : Nat) (s : List Nat) (x : Nat) (W : World) (K : Act → World → Prop), x < g.length → s.length < g.length → (∀ a', (∀ Wb, I s Wb → w.heap.size + 4 ≤ Wb.heap.size → body.wpIn (Fence.wide.inRound l) 0 Try.prog (itPost (lvP M Bm Bg w.heap.size) I (fun _ => False) (s ++ [x]) Wb) a' Wb) → K a' W) →
      assign.wpIn (Fence.wide.inRound l) 0 Try.prog (Exit.then K (fun _ _ _ => False)) { tmps := (ps.zip #[.int .i64 (x : Int)]).foldl (fun t (p, v) => t.setIfInBounds p v) a.tmps, defers := [] } W)
    (hdone : ∀ (D : Nat) (s : List Nat) (W : World) (m' : List Bool), I s W → Walk g [start] m m' s → W.heap[M]? = some (flagsO m') → D = w.heap.size → W.heap[D]? = some (.deferred (some [])) → Q .normal { a with defers := { target := .collected D, args := #[] } :: a.defers } W) :
    (Code.rangeFunc g' ps assign body).wpIn Fence.wide n Try.prog Q a w := by
  have l1 := lt_of hbm
  have l2 := lt_of hbg
  have l3 := lt_of hbs
  have l4 := lt_of hm
  refine range_it (α := Nat) (kk := 2) (gf := 51) (P := fun b => b = M ∨ b = Bm ∨ b = Bg ∨ b = w.heap.size + 2 ∨ b = w.heap.size + 2 + 1) (Rd := fun W => GAt W av blk off hd (castG g)) (V := fun s x => x < g.length ∧ s.length < g.length) (S := fun o W => ∃ m', Walk g [start] m m' o ∧ W.heap[M]? = some (flagsO m')) (enc := fun x : Nat => #[.int .i64 (x : Int)]) hg enter41 (fun _ => hps.symm) ?_ ?_ ?_ I (fun _ => False) ?_ (fun _ _ h _ => h) hRd h0 ?_ ?_ (fun _ _ h => h.elim)
  · rintro s W W' ⟨m', hw, hm'⟩ ht
    exact ⟨m', hw, (ht.block M (lt_of hm') (by omega)).trans hm'⟩
  · intro b hb; rcases hb with rfl | rfl | rfl | rfl | rfl <;> omega
  · intro W1 hb hs
    have := leaving_gives av blk off cap hd g hgr M Bm Bg Bs start m W1 (w.heap.size + 1) hlen hst hne ((hb.block _ l1).trans hbm) ((hb.block _ l2).trans hbg) ((hb.block _ l3).trans hbs) ((hb.block _ l4).trans hm)
    rwa [hs] at this
  · intro s W W' hi ht
    refine hI s W W' hi (ht.mono ?_)
    rintro b ((h | h | h | h | h) | h)
    · exact .inl h
    · exact .inr (.inl h)
    · exact .inr (.inr (.inl h))
    · exact .inr (.inr (.inr (by omega)))
    · exact .inr (.inr (.inr (by omega)))
    · exact .inr (.inr (.inr (by omega)))
  · intro l s x W K hx hK
    refine hround l s x W K hx.1 hx.2 fun a' hb => hK a' fun Wb hi hs => wpIn_mono (hb Wb hi (by omega)) ?_
    intro e a3 W3 hp
    cases e with
    | normal =>
      obtain ⟨h1, h2, h3⟩ := hp
      refine ⟨h1, fun b hb => h2 b ?_, h3⟩
      rcases hb with (h | h | h | h | h) | h | h
      · exact .inl h
      · exact .inr (.inl h)
      · exact .inr (.inr (.inl h))
      · exact .inr (.inr (.inr (by omega)))
      · exact .inr (.inr (.inr (by omega)))
      · exact .inr (.inr (.inr (by omega)))
      · exact .inr (.inr (.inr (by omega)))
    | ret => exact hp.2.2.elim
    | exit id => exact hp.elim
    | goto t => exact hp.elim
    | panic ch => exact hp.elim
    | outgrown => exact hp.elim
  · rintro D s W hi ⟨m', hw, hm'⟩ hD hK
    exact hdone D s W m' hi hw hm' hD hK

end Go.Proofs.Ytonoeodlchkiaaa
