/-
  A text in tokens (layer 9): the contract of Lex.
-/
import Derived.Test.YtgndnodahlabiaaRow
namespace Go.Proofs.Ytgndnodahlabiaa
open Go.ChangeShapes Go.WideShapes Go.ChangeAt Go.RowKit Go.Shelf

attribute [local go_sem] Oper.semAt_some

/-- What Lex answers to a text that is not too long: tokens that lie in new memory, or where one can not go on. -/
inductive LexAns (s : List UInt8) (base : Nat) : Value → World → Prop
  | good (ts : List Tok) (v : Value) (W : World) : lexS s = (ts, none) → W.ownsRow base 41 3 v ts.length (ts.flatMap tcells) → LexAns s base (.tuple #[v, .int .i64 (s.length : Int), .int .i64 0]) W
  | bad (ts : List Tok) (q : Nat) (W : World) : lexS s = (ts, some q) → LexAns s base (.tuple #[.slice none 0 0, .int .i64 (q : Int), .int .i64 2]) W
/-- How things stand between two tokens. -/
structure LexI (w : World) (s : ByteArray) (ss : List Ev) (W : World) : Prop where
  bel : Below w.heap.size w W
  r0 : W.heap[w.heap.size]? = some (.cells #[.slice none 0 0] 32 (0, 0))
  r1 : W.heap[w.heap.size + 1]? = some (.cells #[.int .i64 0] 3 (0, 0))
  r2 : W.heap[w.heap.size + 2]? = some (.cells #[.int .i64 0] 33 (0, 0))
  bs : W.heap[w.heap.size + 4]? = some (.cells #[.string s] 9 (0, 0))
  row : ∃ (ts : List Tok) (v : Value), ss = ts.map (fun x => (x, 0)) ∧ W.heap[w.heap.size + 3]? = some (.cells #[v] 32 (0, 0)) ∧ W.ownsRow (w.heap.size + 7) 41 3 v ts.length (ts.flatMap tcells)
/-- How things stand where one can not go on. -/
structure LexX (w : World) (s : ByteArray) (W : World) : Prop where
  bel : Below w.heap.size w W
  res : ∃ (ts : List Tok) (q : Nat), lexS s.data.toList = (ts, some q) ∧ W.heap[w.heap.size]? = some (.cells #[.slice none 0 0] 32 (0, 0)) ∧ W.heap[w.heap.size + 1]? = some (.cells #[.int .i64 (q : Int)] 3 (0, 0)) ∧ W.heap[w.heap.size + 2]? = some (.cells #[.int .i64 2] 33 (0, 0))
theorem owns_ge {w : World} {base : Nat} {e : TypeId} {size : Nat} {v : Value} {n : Nat} {xs : List Value} (h : w.ownsRow base e size v n xs) : ∀ b, v.ownBlock = some b → base ≤ b := by
  intro b hb
  rcases h.2 with ⟨rfl, _⟩ | ⟨g, cap, cur, rfl, h3, _⟩
  · cases hb
  · have : g = b := by simpa [Value.ownBlock] using hb
    omega
theorem LexI.turns {w : World} {s : ByteArray} {ss : List Ev} {W W' : World} (h : LexI w s ss W) (ht : Turns (fun b => b = w.heap.size + 6) W W') : LexI w s ss W' := by
  obtain ⟨ts, v, h1, h2, h3⟩ := h.row
  exact ⟨ht.below h.bel h.bel.size (fun b hb e => by omega), (ht.block _ (lt_of h.r0) (by omega)).trans h.r0, (ht.block _ (lt_of h.r1) (by omega)).trans h.r1, (ht.block _ (lt_of h.r2) (by omega)).trans h.r2, (ht.block _ (lt_of h.bs) (by omega)).trans h.bs, ts, v, h1, (ht.block _ (lt_of h2) (by omega)).trans h2, owns_turns h3 ht (fun b hb e => by have := owns_ge h3 b hb; omega)⟩
theorem LexX.turns {w : World} {s : ByteArray} {W W' : World} (h : LexX w s W) (ht : Turns (fun b => b = w.heap.size + 6) W W') : LexX w s W' := by
  obtain ⟨ts, q, h1, h2, h3, h4⟩ := h.res
  exact ⟨ht.below h.bel h.bel.size (fun b hb e => by omega), ts, q, h1, (ht.block _ (lt_of h2) (by omega)).trans h2, (ht.block _ (lt_of h3) (by omega)).trans h3, (ht.block _ (lt_of h4) (by omega)).trans h4⟩
theorem evs_split {s : List UInt8} {ts : List Tok} {x : Ev} {u : List Ev} (h : ts.map (fun x => ((x, 0) : Ev)) ++ x :: u = evs (lexS s)) : (x.2 = 0) ∨ (x.2 = 2 ∧ lexS s = (ts, some x.1.a)) := by
  generalize lexS s = r at *
  obtain ⟨l, o⟩ := r
  induction ts generalizing l with
  | nil =>
    cases l with
    | nil =>
      cases o with
      | none => simp [evs] at h
      | some q => simp [evs] at h; obtain ⟨rfl, rfl⟩ := h; exact .inr ⟨rfl, rfl⟩
    | cons y l => simp [evs] at h; exact .inl (by rw [h.1])
  | cons t ts ih =>
    cases l with
    | nil =>
      cases o with
      | none => simp [evs] at h
      | some q => simp [evs] at h
    | cons y l =>
      simp [evs] at h
      obtain ⟨rfl, h⟩ := h
      rcases ih l (by simpa [evs] using h) with h' | ⟨h', h2⟩
      · exact .inl h'
      · injection h2 with h2 h3
        subst h2; exact .inr ⟨h', by rw [h3]⟩
theorem evs_all {s : List UInt8} {ts : List Tok} (h : ts.map (fun x => ((x, 0) : Ev)) = evs (lexS s)) : lexS s = (ts, none) := by
  generalize lexS s = r at *
  obtain ⟨l, o⟩ := r
  induction ts generalizing l with
  | nil =>
    cases l with
    | nil =>
      cases o with
      | none => rfl
      | some q => simp [evs] at h
    | cons y l => simp [evs] at h
  | cons t ts ih =>
    cases l with
    | nil =>
      cases o with
      | none => simp [evs] at h
      | some q => simp [evs] at h
    | cons y l =>
      simp [evs] at h
      obtain ⟨rfl, h⟩ := h
      have := ih l (by simpa [evs] using h)
      injection this with h2 h3
      rw [h2, h3]

theorem toks_len : ∀ (n at_ : Nat) (l : List UInt8), l.length ≤ n → (toks at_ l).1.length ≤ l.length
  | n, at_, [], _ => by simp [toks_nil]
  | 0, _, c :: t, h => by simp at h
  | n + 1, at_, c :: t, h => by
    by_cases hz : (first (c :: t)).2 = 0
    · rw [toks_bad at_ (by simp) hz]; simp
    · rw [toks_tok at_ hz]
      have := toks_len n (at_ + (first (c :: t)).2 + betw ((c :: t).drop (first (c :: t)).2)) ((c :: t).drop ((first (c :: t)).2 + betw ((c :: t).drop (first (c :: t)).2))) (by rw [List.length_drop]; simp at h ⊢; omega)
      rw [List.length_drop] at this
      have h5 := first_le (c :: t)
      rw [List.length_cons]
      omega
theorem lexS_len (l : List UInt8) : (lexS l).1.length ≤ l.length := by
  rw [lexS_eq]
  have := toks_len _ (betw l) (l.drop (betw l)) (Nat.le_refl _)
  rw [List.length_drop] at this
  omega
theorem below_put (W : World) {B D : Nat} (o : Obj) (h : B ≤ D) : Below B W (W.putObj D o) := ⟨rfl, rfl, rfl, by simp [World.putObj], fun b hb => World.putObj_heap_other (by omega)⟩
theorem cell_put (W : World) (D b j : Nat) (o : Obj) (h : b ≠ D) : (W.putObj D o).cell? ⟨b, j, none⟩ = W.cell? ⟨b, j, none⟩ := by
  simp only [World.cell?, World.putObj_heap_other h]
theorem bel_drew {B : Nat} {a b : World} (h : Below B a b) : Below B a b.drew := h.trans ⟨rfl, rfl, rfl, Nat.le_refl _, fun _ _ => rfl⟩
theorem lex_start (w : World) (s : ByteArray) : LexI w s [] (((((w.alloc (.cells #[.slice none 0 0] 32)).alloc (.cells #[.int .i64 0] 3)).alloc (.cells #[.int .i64 0] 33)).alloc (.cells #[.slice none 0 0] 32)).alloc (.cells #[.string s] 9)) ∧ (((((w.alloc (.cells #[.slice none 0 0] 32)).alloc (.cells #[.int .i64 0] 3)).alloc (.cells #[.int .i64 0] 33)).alloc (.cells #[.slice none 0 0] 32)).alloc (.cells #[.string s] 9)).heap.size = w.heap.size + 5 := by
  have key : ∀ (W : World) (o : Obj) (b : Nat) (x : Option Obj), b < W.heap.size → W.heap[b]? = x → (W.alloc o).heap[b]? = x := fun W o b x h e => (Below.heap_alloc W o b h).trans e
  refine ⟨⟨?_, ?_, ?_, ?_, ?_, [], .slice none 0 0, rfl, ?_, World.ownsRow_nil _ _ _ _⟩, by simp⟩
  · exact (((((Below.refl _ w).alloc (Nat.le_refl _) _).alloc (by simp only [World.size_alloc]; omega) _).alloc (by simp only [World.size_alloc]; omega) _).alloc (by simp only [World.size_alloc]; omega) _).alloc (by simp only [World.size_alloc]; omega) _
  · exact key _ _ _ _ (by simp only [World.size_alloc]; omega) (key _ _ _ _ (by simp only [World.size_alloc]; omega) (key _ _ _ _ (by simp only [World.size_alloc]; omega) (key _ _ _ _ (by simp only [World.size_alloc]; omega) (World.alloc_heap_new w _))))
  · refine key _ _ _ _ (by simp only [World.size_alloc]; omega) (key _ _ _ _ (by simp only [World.size_alloc]; omega) (key _ _ _ _ (by simp only [World.size_alloc]; omega) ?_))
    have := World.alloc_heap_new (w.alloc (.cells #[.slice none 0 0] 32)) (.cells #[.int .i64 0] 3)
    rwa [World.size_alloc] at this
  · refine key _ _ _ _ (by simp only [World.size_alloc]; omega) (key _ _ _ _ (by simp only [World.size_alloc]; omega) ?_)
    have := World.alloc_heap_new ((w.alloc (.cells #[.slice none 0 0] 32)).alloc (.cells #[.int .i64 0] 3)) (.cells #[.int .i64 0] 33)
    rwa [World.size_alloc, World.size_alloc] at this
  · have := World.alloc_heap_new ((((w.alloc (.cells #[.slice none 0 0] 32)).alloc (.cells #[.int .i64 0] 3)).alloc (.cells #[.int .i64 0] 33)).alloc (.cells #[.slice none 0 0] 32)) (.cells #[.string s] 9)
    rwa [World.size_alloc, World.size_alloc, World.size_alloc, World.size_alloc] at this
  · refine key _ _ _ _ (by simp only [World.size_alloc]; omega) ?_
    have := World.alloc_heap_new (((w.alloc (.cells #[.slice none 0 0] 32)).alloc (.cells #[.int .i64 0] 3)).alloc (.cells #[.int .i64 0] 33)) (.cells #[.slice none 0 0] 32)
    rwa [World.size_alloc, World.size_alloc, World.size_alloc] at this
set_option maxRecDepth 100000 in
set_option maxHeartbeats 1000000 in
theorem lex_s (s : ByteArray) (hl : s.size ≤ 65536) (w : World) :
    Calls Try.prog 17 #[.string s] w fun e w' => ∃ r, e = .returned r ∧ LexAns s.data.toList w.heap.size r w' ∧ Below w.heap.size w w' := by
  refine (callsIn_wide (n := 0)).1 ?_
  have e1 : ((65536 : Int) < (s.size : Int)) = False := eq_false (by omega)
  have hlen := s_size s
  generalize hz : w.heap.size = hs
  have HZ := hide hz
  refine callsIn_of_wp_marks Try.func17 rfl trivial ?_
  simp only [Try.ntmps17, List.size_toArray, List.length_cons, List.length_nil, Nat.reduceAdd, Nat.reduceSub, Array.replicate_succ, Array.replicate_zero, List.push_toArray, List.append_toArray, List.nil_append, List.cons_append]
  gi_wp2
  refine ⟨by trivial, by trivial, (tokens_in 0 s _).mono ?_⟩
  rintro e w2 ⟨rfl, rfl⟩
  simp only [World.size_alloc]
  obtain ⟨hI0, hs2⟩ := lex_start w s
  generalize (((((w.alloc (.cells #[.slice none 0 0] 32)).alloc (.cells #[.int .i64 0] 3)).alloc (.cells #[.int .i64 0] 33)).alloc (.cells #[.slice none 0 0] 32)).alloc (.cells #[.string s] 9)) = w2 at *
  rw [hz] at hs2
  have hI0H := hide hI0
  clear hI0
  gi_wp2
  subst hz
  clear HZ
  refine range_box (α := Ev) (kk := 0) (gf := 35) (lb := #[.pointer (some ⟨w.heap.size + 1 + 1 + 1 + 1, 0, none⟩)]) (Rd := fun W => W.heap[w.heap.size + 4]? = some (.cells #[.string s] 9 (0, 0)))
    (V := fun ss x => ∃ u, ss ++ x :: u = evs (lexS s.data.toList)) (S := fun ss _ => ss = evs (lexS s.data.toList)) (enc := fun x : Ev => #[tokV x.1, .int .i64 (x.2 : Int)]) rfl enter34 (fun _ => rfl) (fun _ _ _ h _ => h)
    (fun W1 _ _ => tokens_gives s (by omega) _ W1 _) (LexI w s) (LexX w s) ?hI ?hIx (fun _ _ h => h.bs) hI0H.out ?hround ?hdone ?hstop
  case hI => exact fun ss W W' h ht => h.turns (ht.mono fun b hb => by omega)
  case hIx => exact fun W W' h ht => h.turns (ht.mono fun b hb => by omega)
  case hround =>
    rintro l ss x Wr K ⟨u, hv⟩ hK
    have HK := hide hK
    clear hK
    dsimp only
    obtain ⟨x, er⟩ := x
    gi_wp2
    refine HK.out _ _ ?_
    intro Wb hI hob hszb hge
    clear HK
    have hI' := hI
    obtain ⟨ts, v, rfl, hv3, hrow⟩ := hI.row
    have hts : ts.length ≤ 65536 := by
      have h1 := lexS_len s.data.toList
      have h2 := congrArg List.length hv
      rw [hlen] at h1
      have h3 : (evs (lexS s.data.toList)).length ≤ (lexS s.data.toList).1.length + 1 := by
        unfold evs
        rw [List.length_append, List.length_map]
        split <;> simp
      rw [List.length_append, List.length_map] at h2
      simp at h2
      omega
    have hge7 := owns_ge hrow
    rcases evs_split hv with he | ⟨he, hlx⟩
    · obtain rfl : er = 0 := he
      obtain ⟨g', cp, w', hap, ho, hgb, hat, hgl⟩ := app_tok Wb 23 (w.heap.size + 7) v ts.length _ hrow x (by omega) (by omega)
      have hgT : Turns (fun b => v.ownBlock = some b) Wb w' := ⟨hgb.os, hgb.tape, hgb.output, by have := hgb.size; rw [World.size_alloc] at this; omega, fun b hb hq => (hgb.block b (by rw [World.size_alloc]; omega) (fun e => hq e.symm)).trans (Below.heap_alloc _ _ _ hb)⟩
      have hv3' : w'.heap[w.heap.size + 3]? = some (.cells #[v] 32 (0, 0)) := (hgT.block _ (lt_of hv3) (fun e => by have := hge7 _ e; omega)).trans hv3
      have c3 : Wb.cell? ⟨w.heap.size + 1 + 1 + 1, 0, none⟩ = some v := cell_of hv3 0
      have d3 : w'.cell? ⟨w.heap.size + 1 + 1 + 1, 0, none⟩ = some v := cell_of hv3' 0
      have f3 : w'.frozen? ⟨w.heap.size + 1 + 1 + 1, 0, none⟩ = false := frozen_of hv3' 0
      have x0 : Wb.cell? ⟨Wr.heap.size, 0, none⟩ = some (.int .i64 (x.k : Int)) := cell_of hob 0
      have x1 : Wb.cell? ⟨Wr.heap.size, 1, none⟩ = some (.string (bs x.t)) := cell_of hob 1
      have x2 : Wb.cell? ⟨Wr.heap.size, 2, none⟩ = some (.int .i64 (x.a : Int)) := cell_of hob 2
      have hT2 : Turns (fun b => b = w.heap.size + 3 ∨ w.heap.size + 7 ≤ b) Wb (w'.setCell ⟨w.heap.size + 1 + 1 + 1, 0, none⟩ (.slice (some ⟨g', 0, none⟩) (ts.length + 1) cp)) := (hgT.mono fun b hb => .inr (hge7 b hb)).trans (Turns.setCell _ _ _ (.inl rfl))
      have hg7 : w.heap.size + 7 ≤ g' := hat.elim (fun h' => hge7 g' h') (fun h' => by omega)
      have FIN2 : Hid (Wb.heap.size ≤ (w'.setCell ⟨w.heap.size + 1 + 1 + 1, 0, none⟩ (.slice (some ⟨g', 0, none⟩) (ts.length + 1) cp)).heap.size ∧ (∀ b, (b = w2.heap.size ∨ b = w2.heap.size + 1) → (w'.setCell ⟨w.heap.size + 1 + 1 + 1, 0, none⟩ (.slice (some ⟨g', 0, none⟩) (ts.length + 1) cp)).heap[b]? = Wb.heap[b]?) ∧ LexI w s (ts.map (fun x => (x, 0)) ++ [(x, 0)]) (w'.setCell ⟨w.heap.size + 1 + 1 + 1, 0, none⟩ (.slice (some ⟨g', 0, none⟩) (ts.length + 1) cp))) := by
        refine ⟨hT2.size, fun b hb => hT2.block b (by omega) (by omega), ?_⟩
        refine ⟨hT2.below hI.bel hI.bel.size (fun b hb => by omega), (hT2.block _ (lt_of hI.r0) (by omega)).trans hI.r0, (hT2.block _ (lt_of hI.r1) (by omega)).trans hI.r1, (hT2.block _ (lt_of hI.r2) (by omega)).trans hI.r2, (hT2.block _ (lt_of hI.bs) (by omega)).trans hI.bs, ts ++ [x], _, by simp, heap_set_same' hv3' 0 _, ?_⟩
        rw [List.length_append, List.flatMap_append]
        refine owns_turns (by simpa using ho) (Turns.setCell (Q := fun b => b = w.heap.size + 3) _ _ _ rfl) (fun b hb e => ?_)
        have hb' : g' = b := by injection hb
        omega
      have HAP : Hid ((Builtin.append_ #[32, 32] 32 #[v, .slice (some ⟨Wb.heap.size, 0, none⟩) 1 1]).run Try.prog (Wb.alloc (.cells #[.int .i64 (x.k : Int), .string (bs x.t), .int .i64 (x.a : Int)] 41)) = .ok (.slice (some ⟨g', 0, none⟩) (ts.length + 1) cp) w') := hap
      clear hap ho hgT hgb hI hI' hrow hv hv3 hv3' hob hT2 hg7 hge7 hat hgl hszb hge hs2 hI0H
      generalize hn : ts.length = n at *
      clear hn
      gi_wp2_with (gi_at_builtin; refine wpListIn_append_run rfl _ _ 32 rfl rfl rfl HAP.out ?_)
      exact FIN2.out
    · obtain rfl : er = 2 := he
      have x2 : Wb.drew.cell? ⟨Wr.heap.size, 2, none⟩ = some (.int .i64 (x.a : Int)) := cell_of (show Wb.drew.heap[Wr.heap.size]? = _ from hob) 2
      have g0 : Wb.drew.heap[w.heap.size]? = some (.cells #[.slice none 0 0] 32 (0, 0)) := hI.r0
      have g1 : Wb.drew.heap[w.heap.size + 1]? = some (.cells #[.int .i64 0] 3 (0, 0)) := hI.r1
      have g2 : Wb.drew.heap[w.heap.size + 2]? = some (.cells #[.int .i64 0] 33 (0, 0)) := hI.r2
      have a0 := heap_set_same' g0 0 (.slice none 0 0)
      have a1 : (Wb.drew.setCell ⟨w.heap.size, 0, none⟩ (.slice none 0 0)).heap[w.heap.size + 1]? = some (.cells #[.int .i64 0] 3 (0, 0)) := (Below.heap_setCell _ ⟨w.heap.size, 0, none⟩ _ _ (by show _ ≠ w.heap.size; omega)).trans g1
      have a2 : (Wb.drew.setCell ⟨w.heap.size, 0, none⟩ (.slice none 0 0)).heap[w.heap.size + 2]? = some (.cells #[.int .i64 0] 33 (0, 0)) := (Below.heap_setCell _ ⟨w.heap.size, 0, none⟩ _ _ (by show _ ≠ w.heap.size; omega)).trans g2
      have b1 := heap_set_same' a1 0 (.int .i64 (x.a : Int))
      have b2 : ((Wb.drew.setCell ⟨w.heap.size, 0, none⟩ (.slice none 0 0)).setCell ⟨w.heap.size + 1, 0, none⟩ (.int .i64 (x.a : Int))).heap[w.heap.size + 2]? = some (.cells #[.int .i64 0] 33 (0, 0)) := (Below.heap_setCell _ ⟨w.heap.size + 1, 0, none⟩ _ _ (by show _ ≠ w.heap.size + 1; omega)).trans a2
      have b3 := heap_set_same' b2 0 (.int .i64 2)
      have p0 : Wb.drew.cell? ⟨w.heap.size, 0, none⟩ = some (.slice none 0 0) := cell_of g0 0
      have q0 : Wb.drew.frozen? ⟨w.heap.size, 0, none⟩ = false := frozen_of g0 0
      have p1 : (Wb.drew.setCell ⟨w.heap.size, 0, none⟩ (.slice none 0 0)).cell? ⟨w.heap.size + 1, 0, none⟩ = some (.int .i64 0) := cell_of a1 0
      have q1 : (Wb.drew.setCell ⟨w.heap.size, 0, none⟩ (.slice none 0 0)).frozen? ⟨w.heap.size + 1, 0, none⟩ = false := frozen_of a1 0
      have p2 : ((Wb.drew.setCell ⟨w.heap.size, 0, none⟩ (.slice none 0 0)).setCell ⟨w.heap.size + 1, 0, none⟩ (.int .i64 (x.a : Int))).cell? ⟨w.heap.size + 1 + 1, 0, none⟩ = some (.int .i64 0) := cell_of b2 0
      have q2 : ((Wb.drew.setCell ⟨w.heap.size, 0, none⟩ (.slice none 0 0)).setCell ⟨w.heap.size + 1, 0, none⟩ (.int .i64 (x.a : Int))).frozen? ⟨w.heap.size + 1 + 1, 0, none⟩ = false := frozen_of b2 0
      have x2' : (Wb.drew.setCell ⟨w.heap.size, 0, none⟩ (.slice none 0 0)).cell? ⟨Wr.heap.size, 2, none⟩ = some (.int .i64 (x.a : Int)) := cell_of (((Below.heap_setCell _ ⟨w.heap.size, 0, none⟩ _ _ (by show _ ≠ w.heap.size; omega)).trans (show Wb.drew.heap[Wr.heap.size]? = _ from hob))) 2
      have k0 : Wb.cell? ⟨w.heap.size, 0, none⟩ = some (.slice none 0 0) := cell_of hI.r0 0
      have k1 : Wb.cell? ⟨w.heap.size + 1, 0, none⟩ = some (.int .i64 0) := cell_of hI.r1 0
      have k2 : Wb.cell? ⟨w.heap.size + 1 + 1, 0, none⟩ = some (.int .i64 0) := cell_of hI.r2 0
      have m0 : Wb.frozen? ⟨w.heap.size, 0, none⟩ = false := frozen_of hI.r0 0
      have m1 : Wb.frozen? ⟨w.heap.size + 1, 0, none⟩ = false := frozen_of hI.r1 0
      have m2 : Wb.frozen? ⟨w.heap.size + 1 + 1, 0, none⟩ = false := frozen_of hI.r2 0
      have m3 : Wb.cell? ⟨Wr.heap.size, 2, none⟩ = some (.int .i64 (x.a : Int)) := cell_of hob 2
      have hne : Wr.heap.size ≠ w.heap.size := by omega
      have hT : Turns (fun b => b = w.heap.size ∨ b = w.heap.size + 1 ∨ b = w.heap.size + 2) Wb (((Wb.drew.setCell ⟨w.heap.size, 0, none⟩ (.slice none 0 0)).setCell ⟨w.heap.size + 1, 0, none⟩ (.int .i64 (x.a : Int))).setCell ⟨w.heap.size + 1 + 1, 0, none⟩ (.int .i64 2)) :=
        (((⟨rfl, rfl, rfl, Nat.le_refl _, fun _ _ _ => rfl⟩ : Turns _ Wb Wb.drew).trans (Turns.setCell _ _ _ (.inl rfl))).trans (Turns.setCell _ _ _ (.inr (.inl rfl)))).trans (Turns.setCell _ _ _ (.inr (.inr rfl)))
      have FIN : Hid (Wb.heap.size ≤ (((Wb.drew.setCell ⟨w.heap.size, 0, none⟩ (.slice none 0 0)).setCell ⟨w.heap.size + 1, 0, none⟩ (.int .i64 (x.a : Int))).setCell ⟨w.heap.size + 1 + 1, 0, none⟩ (.int .i64 2)).heap.size ∧ (∀ b, (b = w2.heap.size ∨ b = w2.heap.size + 1) → (((Wb.drew.setCell ⟨w.heap.size, 0, none⟩ (.slice none 0 0)).setCell ⟨w.heap.size + 1, 0, none⟩ (.int .i64 (x.a : Int))).setCell ⟨w.heap.size + 1 + 1, 0, none⟩ (.int .i64 2)).heap[b]? = Wb.heap[b]?) ∧ LexX w s (((Wb.drew.setCell ⟨w.heap.size, 0, none⟩ (.slice none 0 0)).setCell ⟨w.heap.size + 1, 0, none⟩ (.int .i64 (x.a : Int))).setCell ⟨w.heap.size + 1 + 1, 0, none⟩ (.int .i64 2))) := by
        refine ⟨hT.size, fun b hb => hT.block b (by omega) (by omega), hT.below hI.bel hI.bel.size (fun b hb => by omega), ts, x.a, hlx, ?_, ?_, b3⟩
        · refine (Below.heap_setCell _ ⟨w.heap.size + 1 + 1, 0, none⟩ _ _ (by show _ ≠ w.heap.size + 1 + 1; omega)).trans ((Below.heap_setCell _ ⟨w.heap.size + 1, 0, none⟩ _ _ (by show _ ≠ w.heap.size + 1; omega)).trans a0)
        · exact (Below.heap_setCell _ ⟨w.heap.size + 1 + 1, 0, none⟩ _ _ (by show _ ≠ w.heap.size + 1 + 1; omega)).trans b1
      clear hI hI' hrow hv hv3 hob hT hge7 hlx a0 a1 a2 b1 b2 b3 g0 g1 g2 hszb hge hs2 hI0H
      gi_wp2
      refine region_round (by kernel_rfl) (by kernel_rfl) ?_
      refine wpAnyIn_take (i := 0) (v := ?_) rfl rfl (by kernel_rfl) (by kernel_rfl) (by kernel_rfl) (fun _ _ _ h => h) ⟨Or.inl ⟨by rfl, ?_⟩, fun _ => rfl⟩ ?_
      rotate_left 1
      · intro w; go_simp; try with_reducible rfl
      refine wpAnyIn_take (i := 2) (v := ?_) rfl rfl (by kernel_rfl) (by kernel_rfl) (by kernel_rfl) (fun _ _ _ h => h) ⟨Or.inl ⟨by rfl, ?_⟩, fun _ => rfl⟩ ?_
      rotate_left 1
      · intro w; go_simp; try with_reducible rfl
      refine wpAnyIn_ready (rs := [1, 3]) (by kernel_rfl) (by simp) (AllReadyIn.cons rfl (fun K hK => ?_) (AllReadyIn.cons rfl (fun K hK => ?_) (AllReadyIn.nil)))
      · go_simp
        refine hK _ _ ?_
        clear hK K
        refine wpAnyIn_ready (rs := [3]) (by kernel_rfl) (by simp) (AllReadyIn.cons rfl (fun K hK => ?_) (AllReadyIn.nil))
        · go_simp
          refine hK _ _ ?_
          clear hK K
          refine wpAnyIn_ready (rs := [4]) (by kernel_rfl) (by simp) (AllReadyIn.cons rfl (fun K hK => ?_) (AllReadyIn.nil))
          · go_simp
            refine hK _ _ ?_
            clear hK K
            refine wpAnyIn_ready (rs := [5]) (by kernel_rfl) (by simp) (AllReadyIn.cons rfl (fun K hK => ?_) (AllReadyIn.nil))
            · go_simp
              refine hK _ _ ?_
              clear hK K
              refine wpAnyIn_done (by kernel_rfl) ?_ _
              gi_wp2
              exact FIN.out
      · go_simp
        refine hK _ _ ?_
        clear hK K
        refine wpAnyIn_ready (rs := [1]) (by kernel_rfl) (by simp) (AllReadyIn.cons rfl (fun K hK => ?_) (AllReadyIn.nil))
        · go_simp
          refine hK _ _ ?_
          clear hK K
          refine wpAnyIn_ready (rs := [4]) (by kernel_rfl) (by simp) (AllReadyIn.cons rfl (fun K hK => ?_) (AllReadyIn.nil))
          · go_simp
            refine hK _ _ ?_
            clear hK K
            refine wpAnyIn_ready (rs := [5]) (by kernel_rfl) (by simp) (AllReadyIn.cons rfl (fun K hK => ?_) (AllReadyIn.nil))
            · go_simp
              refine hK _ _ ?_
              clear hK K
              refine wpAnyIn_done (by kernel_rfl) ?_ _
              gi_wp2
              exact FIN.out
  case hdone =>
    rintro D ss W hI hS hD hK
    obtain ⟨ts, v, rfl, hv3, hrow⟩ := hI.row
    obtain ⟨va, vc, hve, -⟩ := owns_shape hrow
    subst hve
    have hlx := evs_all hS
    obtain rfl : D = w.heap.size + 5 := by omega
    have c3 : W.cell? ⟨w.heap.size + 1 + 1 + 1, 0, none⟩ = some (.slice va ts.length vc) := cell_of hv3 0
    have c0 : W.cell? ⟨w.heap.size, 0, none⟩ = some (.slice none 0 0) := cell_of hI.r0 0
    have f0 : W.frozen? ⟨w.heap.size, 0, none⟩ = false := frozen_of hI.r0 0
    have a1 : (W.setCell ⟨w.heap.size, 0, none⟩ (.slice va ts.length vc)).heap[w.heap.size + 1]? = some (.cells #[.int .i64 0] 3 (0, 0)) := (Below.heap_setCell _ ⟨w.heap.size, 0, none⟩ _ _ (by show _ ≠ w.heap.size; omega)).trans hI.r1
    have a2 : (W.setCell ⟨w.heap.size, 0, none⟩ (.slice va ts.length vc)).heap[w.heap.size + 2]? = some (.cells #[.int .i64 0] 33 (0, 0)) := (Below.heap_setCell _ ⟨w.heap.size, 0, none⟩ _ _ (by show _ ≠ w.heap.size; omega)).trans hI.r2
    have a0 := heap_set_same' hI.r0 0 (.slice va ts.length vc)
    have c1 : (W.setCell ⟨w.heap.size, 0, none⟩ (.slice va ts.length vc)).cell? ⟨w.heap.size + 1, 0, none⟩ = some (.int .i64 0) := cell_of a1 0
    have f1 : (W.setCell ⟨w.heap.size, 0, none⟩ (.slice va ts.length vc)).frozen? ⟨w.heap.size + 1, 0, none⟩ = false := frozen_of a1 0
    have b1 := heap_set_same' a1 0 (.int .i64 (s.size : Int))
    have b2 : ((W.setCell ⟨w.heap.size, 0, none⟩ (.slice va ts.length vc)).setCell ⟨w.heap.size + 1, 0, none⟩ (.int .i64 (s.size : Int))).heap[w.heap.size + 2]? = some (.cells #[.int .i64 0] 33 (0, 0)) := (Below.heap_setCell _ ⟨w.heap.size + 1, 0, none⟩ _ _ (by show _ ≠ w.heap.size + 1; omega)).trans a2
    have c2 : ((W.setCell ⟨w.heap.size, 0, none⟩ (.slice va ts.length vc)).setCell ⟨w.heap.size + 1, 0, none⟩ (.int .i64 (s.size : Int))).cell? ⟨w.heap.size + 1 + 1, 0, none⟩ = some (.int .i64 0) := cell_of b2 0
    have f2 : ((W.setCell ⟨w.heap.size, 0, none⟩ (.slice va ts.length vc)).setCell ⟨w.heap.size + 1, 0, none⟩ (.int .i64 (s.size : Int))).frozen? ⟨w.heap.size + 1 + 1, 0, none⟩ = false := frozen_of b2 0
    have m0 : W.frozen? ⟨w.heap.size, 0, none⟩ = false := frozen_of hI.r0 0
    have m1 : W.frozen? ⟨w.heap.size + 1, 0, none⟩ = false := frozen_of hI.r1 0
    have m2 : W.frozen? ⟨w.heap.size + 1 + 1, 0, none⟩ = false := frozen_of hI.r2 0
    have k1 : W.cell? ⟨w.heap.size + 1, 0, none⟩ = some (.int .i64 0) := cell_of hI.r1 0
    have k2 : W.cell? ⟨w.heap.size + 1 + 1, 0, none⟩ = some (.int .i64 0) := cell_of hI.r2 0
    have hT : Turns (fun b => b = w.heap.size ∨ b = w.heap.size + 1 ∨ b = w.heap.size + 2) W (((W.setCell ⟨w.heap.size, 0, none⟩ (.slice va ts.length vc)).setCell ⟨w.heap.size + 1, 0, none⟩ (.int .i64 (s.size : Int))).setCell ⟨w.heap.size + 1 + 1, 0, none⟩ (.int .i64 0)) :=
      ((Turns.setCell _ _ _ (.inl rfl)).trans (Turns.setCell _ _ _ (.inr (.inl rfl)))).trans (Turns.setCell _ _ _ (.inr (.inr rfl)))
    have g0 : (((W.setCell ⟨w.heap.size, 0, none⟩ (.slice va ts.length vc)).setCell ⟨w.heap.size + 1, 0, none⟩ (.int .i64 (s.size : Int))).setCell ⟨w.heap.size + 1 + 1, 0, none⟩ (.int .i64 0)).heap[w.heap.size]? = some (.cells #[.slice va ts.length vc] 32 (0, 0)) := (Below.heap_setCell _ ⟨w.heap.size + 1 + 1, 0, none⟩ _ _ (by show _ ≠ w.heap.size + 1 + 1; omega)).trans ((Below.heap_setCell _ ⟨w.heap.size + 1, 0, none⟩ _ _ (by show _ ≠ w.heap.size + 1; omega)).trans a0)
    have g1 : (((W.setCell ⟨w.heap.size, 0, none⟩ (.slice va ts.length vc)).setCell ⟨w.heap.size + 1, 0, none⟩ (.int .i64 (s.size : Int))).setCell ⟨w.heap.size + 1 + 1, 0, none⟩ (.int .i64 0)).heap[w.heap.size + 1]? = some (.cells #[.int .i64 (s.size : Int)] 3 (0, 0)) := (Below.heap_setCell _ ⟨w.heap.size + 1 + 1, 0, none⟩ _ _ (by show _ ≠ w.heap.size + 1 + 1; omega)).trans b1
    have g2 := heap_set_same' b2 0 (.int .i64 0)
    have hKT := (hT.block _ (lt_of hK) (by omega)).trans hK
    have HB := hide (hT.below hI.bel hI.bel.size (fun b hb => by omega))
    have hrow2 := owns_turns hrow hT (fun b hb e => by have := owns_ge hrow b hb; omega)
    have HR := hide (And.intro hlx hrow2)
    have HG := hide (And.intro g0 (And.intro g1 g2))
    clear hI hv3 hrow hS hlx hK hT a0 a1 a2 b1 b2 g0 g1 g2 hrow2
    gi_wp2
    obtain ⟨g0, g1, g2⟩ := HG.out
    refine ⟨by simp, .inl ⟨_, _, rfl, run_takeDeferred hKT, ?_⟩⟩
    have u0 := (cell_put _ (w.heap.size + 5) w.heap.size 0 (.deferred none) (by omega)).trans (cell_of g0 0)
    have u1 := (cell_put _ (w.heap.size + 5) (w.heap.size + 1) 0 (.deferred none) (by omega)).trans (cell_of g1 0)
    have u2 := (cell_put _ (w.heap.size + 5) (w.heap.size + 2) 0 (.deferred none) (by omega)).trans (cell_of g2 0)
    refine ⟨  .tuple #[.slice va ts.length vc, .int .i64 (s.size : Int), .int .i64 0], by simp [results, Try.results17, go_sem, u0, u1, u2], _, rfl, ?_, HB.out.trans (below_put _ _ (by omega))⟩
    rw [← hlen]
    refine .good ts _ _ HR.out.1 (owns_base (owns_turns HR.out.2 (Turns.putObj (Q := fun b => b = w.heap.size + 5) _ _ _ rfl) (fun b hb e => ?_)) (by omega))
    have := owns_ge HR.out.2 b hb
    omega
  case hstop =>
    rintro D W hX hD hK
    obtain ⟨ts, q, hlx, g0, g1, g2⟩ := hX.res
    obtain rfl : D = w.heap.size + 5 := by omega
    have HB := hide hX.bel
    gi_wp2
    refine ⟨by simp, .inl ⟨_, _, rfl, run_takeDeferred hK, ?_⟩⟩
    have u0 := (cell_put W (w.heap.size + 5) w.heap.size 0 (.deferred none) (by omega)).trans (cell_of g0 0)
    have u1 := (cell_put W (w.heap.size + 5) (w.heap.size + 1) 0 (.deferred none) (by omega)).trans (cell_of g1 0)
    have u2 := (cell_put W (w.heap.size + 5) (w.heap.size + 2) 0 (.deferred none) (by omega)).trans (cell_of g2 0)
    refine ⟨.tuple #[.slice none 0 0, .int .i64 (q : Int), .int .i64 2], by simp [results, Try.results17, go_sem, u0, u1, u2], _, rfl, .bad ts q _ hlx, HB.out.trans (below_put _ _ (by omega))⟩

end Go.Proofs.Ytgndnodahlabiaa
