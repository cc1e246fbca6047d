/-
  Two sets apart (layer 8); things in a row that are joined; the walk of UnionChain.
-/
import Derived.Test.YtcebidhfgdchlaaUnM
namespace Go.Proofs.Ytcebidhfgdchlaa
open Go.ChangeShapes Go.WideShapes Go.ChangeAt Go.RowKit Go.Shelf Go.Maps

/-- The blocks of sets. -/
def Own (X mb : Nat) (v : Value) (b : Nat) : Prop := b = X ∨ b = mb ∨ v.ownBlock = some b
theorem SAt.own_lt {W : World} {base X mb : Nat} {v : Value} {st : List Th} (h : SAt W base X mb v st) {b : Nat} (hb : Own X mb v b) : b < W.heap.size ∧ base ≤ b := by
  rcases hb with rfl | rfl | hb
  · exact ⟨lt_of h.box, h.bX⟩
  · exact ⟨h.map.lt, h.bm⟩
  · exact ⟨(h.row.lt b hb).2, (h.row.lt b hb).1⟩
theorem owns_mono {W : World} {base base' : Nat} {e : TypeId} {size : Nat} {v : Value} {n : Nat} {xs : List Value} (h : W.ownsRow base e size v n xs) (hb : base' ≤ base) : W.ownsRow base' e size v n xs := by
  refine ⟨h.1, ?_⟩
  rcases h.2 with h2 | ⟨g, cap, cur, h1, h3, h4⟩
  · exact .inl h2
  · exact .inr ⟨g, cap, cur, h1, by omega, h4⟩
theorem SAt.mono {W : World} {base base' X mb : Nat} {v : Value} {st : List Th} (h : SAt W base X mb v st) (hb : base' ≤ base) : SAt W base' X mb v st :=
  ⟨h.box, owns_mono h.row hb, h.map, h.uf, by have := h.bX; omega, by have := h.bm; omega⟩
/-- Two sets, apart. -/
structure Two (w W : World) (X1 m1 X2 m2 : Nat) (v1 v2 : Value) (s1 s2 : List Th) : Prop where
  a : SAt W w.heap.size X1 m1 v1 s1
  b : SAt W w.heap.size X2 m2 v2 s2
  ap : ∀ b, Own X1 m1 v1 b → ¬ Own X2 m2 v2 b
  bel : Below w.heap.size w W
theorem Two.swap {w W : World} {X1 m1 X2 m2 : Nat} {v1 v2 : Value} {s1 s2 : List Th} (h : Two w W X1 m1 X2 m2 v1 v2 s1 s2) : Two w W X2 m2 X1 m1 v2 v1 s2 s1 := ⟨h.b, h.a, fun b h1 h2 => h.ap b h2 h1, h.bel⟩
theorem Two.below {w W W' : World} {X1 m1 X2 m2 : Nat} {v1 v2 : Value} {s1 s2 : List Th} (h : Two w W X1 m1 X2 m2 v1 v2 s1 s2) (hb : Below W.heap.size W W') : Two w W' X1 m1 X2 m2 v1 v2 s1 s2 :=
  ⟨h.a.below hb, h.b.below hb, h.ap, h.bel.trans (hb.mono h.bel.size)⟩
theorem two_join {w W : World} {X1 m1 X2 m2 : Nat} {v1 v2 : Value} {s1 s2 : List Th} (a b : Int) (ha : Fits a) (hb : Fits b) (hl : s1.length ≤ 50000) (h : Two w W X1 m1 X2 m2 v1 v2 s1 s2) :
    Calls Try.prog 9 #[.pointer (some ⟨X1, 0, none⟩), .int .i64 a, .int .i64 b] W fun e W' => ∃ (s1' : List Th) (v1' : Value) (res : Bool), e = .returned (.bool res) ∧ Two w W' X1 m1 X2 m2 v1' v2 s1' s2 ∧ JoinR s1 a b s1' res := by
  refine (join_is w.heap.size X1 m1 v1 s1 a b ha hb hl W h.bel.size (fun b => Own X1 m1 v1 b ∨ W.heap.size ≤ b) (.inl (.inl rfl)) (.inl (.inr (.inl rfl))) (fun b hb => .inl (.inr (.inr hb))) (fun b hb => .inr hb) h.a).mono ?_
  rintro e W' ⟨s1', v1', res, he, hS, hT, hv, hJ⟩
  have hno : ∀ c, Own X2 m2 v2 c → ¬ (Own X1 m1 v1 c ∨ W.heap.size ≤ c) := fun c hc hq => by
    have := (h.b.own_lt hc).1
    rcases hq with hq | hq
    · exact h.ap c hq hc
    · omega
  refine ⟨s1', v1', res, he, ⟨hS, h.b.turns hT (hno _ (.inl rfl)) (hno _ (.inr (.inl rfl))) (fun c hc => hno c (.inr (.inr hc))), fun c hc hc2 => ?_, ?_⟩, hJ⟩
  · rcases hc with hc | hc | hc
    · exact h.ap c (.inl hc) hc2
    · exact h.ap c (.inr (.inl hc)) hc2
    · exact hno c hc2 (hv c hc)
  · exact hT.below h.bel h.bel.size (fun c hc hq => by
      rcases hq with hq | hq
      · have := (h.a.own_lt hq).2; omega
      · have := h.bel.size; omega)

/-- Numbers in a row are one class; one alone is none yet. -/
def Span (s : List Th) (lo : Int) (k : Nat) : Prop := UF s ∧ 1 ≤ k ∧ s.length ≤ 2 * k ∧ (∀ x y, KS s x y ↔ 2 ≤ k ∧ lo ≤ x ∧ x < lo + k ∧ lo ≤ y ∧ y < lo + k) ∧ roots s + 1 = min k 2
theorem Span.up {s s' : List Th} {lo : Int} {k : Nat} {res : Bool} (h : Span s lo k) (hJ : JoinR s (lo + k - 1) (lo + k) s' res) : res = true ∧ Span s' lo (k + 1) := by
  obtain ⟨hU, h1, h2, hK, hR⟩ := h
  obtain ⟨hU', hl, E, hE, hK', hres, n1, n2, hn1, hn2, hr⟩ := hJ.ks hU
  have e1 : res = true := hres.2 (by rw [hE, hK]; omega)
  have hK2 : ∀ x y, KS s' x y ↔ E x y ∨ ((E x (lo + k - 1) ∧ E (lo + k) y) ∨ (E x (lo + k) ∧ E (lo + k - 1) y)) := fun x y => (hK' x y).trans ⟨fun h => h.elim .inl (fun h => .inr h.2), fun h => h.elim .inl (fun h => .inr ⟨e1, h⟩)⟩
  refine ⟨e1, hU', by omega, by omega, fun x y => ?_, ?_⟩
  · rw [hK2, hE, hE, hE, hE, hE, hK, hK, hK, hK, hK]; omega
  · have e3 : n2 = true := hn2.2 (by rw [hK]; omega)
    rw [e1, e3] at hr
    by_cases hk : 2 ≤ k
    · have e2 : n1 = false := by have : ¬ n1 = true := fun h => absurd (hn1.1 h) (by rw [hK]; omega); simpa using this
      rw [e2] at hr; simp at hr; omega
    · have e2 : n1 = true := hn1.2 (by rw [hK]; omega)
      rw [e2] at hr; simp at hr; omega
theorem Span.down {s s' : List Th} {lo : Int} {k : Nat} {res : Bool} (h : Span s lo k) (hJ : JoinR s lo (lo - 1) s' res) : res = true ∧ Span s' (lo - 1) (k + 1) := by
  obtain ⟨hU, h1, h2, hK, hR⟩ := h
  obtain ⟨hU', hl, E, hE, hK', hres, n1, n2, hn1, hn2, hr⟩ := hJ.ks hU
  have e1 : res = true := hres.2 (by rw [hE, hK]; omega)
  have hK2 : ∀ x y, KS s' x y ↔ E x y ∨ ((E x lo ∧ E (lo - 1) y) ∨ (E x (lo - 1) ∧ E lo y)) := fun x y => (hK' x y).trans ⟨fun h => h.elim .inl (fun h => .inr h.2), fun h => h.elim .inl (fun h => .inr ⟨e1, h⟩)⟩
  refine ⟨e1, hU', by omega, by omega, fun x y => ?_, ?_⟩
  · rw [hK2, hE, hE, hE, hE, hE, hK, hK, hK, hK, hK]; omega
  · have e3 : n2 = true := hn2.2 (by rw [hK]; omega)
    rw [e1, e3] at hr
    by_cases hk : 2 ≤ k
    · have e2 : n1 = false := by have : ¬ n1 = true := fun h => absurd (hn1.1 h) (by rw [hK]; omega); simpa using this
      rw [e2] at hr; simp at hr; omega
    · have e2 : n1 = true := hn1.2 (by rw [hK]; omega)
      rw [e2] at hr; simp at hr; omega
abbrev spanL (lo : Int) (k : Nat) : List Int := (List.range k).map fun j : Nat => lo + (j : Int)
theorem Span.list {s : List Th} {lo : Int} {k : Nat} (h : Span s lo k) (hk : 2 ≤ k) {x : Int} (h1 : lo ≤ x) (h2 : x < lo + k) {l : List Int} (hc : IsClass s x l) : l = spanL lo k := by
  refine riseI_ext hc.2.1 ?_ (fun t => ?_)
  · rw [List.pairwise_map]
    exact List.pairwise_lt_range.imp fun h => by omega
  · rw [hc.2.2, h.2.2.2.1, List.mem_map]
    constructor
    · rintro ⟨_, _, _, h3, h4⟩
      exact ⟨(t - lo).toNat, List.mem_range.2 (by omega), by omega⟩
    · rintro ⟨j, hj, rfl⟩
      have := List.mem_range.1 hj
      omega
theorem two_new (w W1 W2 : World) (B : Nat) (hB : w.heap.size ≤ B) (hb1 : Below w.heap.size w W1) (h1 : SAt W1 B (B + 1) B (.slice none 0 0) []) (hb2 : Below W1.heap.size W1 W2) (h2 : SAt W2 W1.heap.size (W1.heap.size + 1) W1.heap.size (.slice none 0 0) []) :
    Two w W2 (B + 1) B (W1.heap.size + 1) W1.heap.size (.slice none 0 0) (.slice none 0 0) [] [] := by
  have hl := lt_of h1.box
  refine ⟨(h1.below hb2).mono hB, h2.mono hb1.size, fun b hb hc => ?_, hb1.trans (hb2.mono hb1.size)⟩
  rcases hb with hb | hb | hb
  · rcases hc with hc | hc | hc
    · omega
    · omega
    · cases hc
  · rcases hc with hc | hc | hc
    · omega
    · omega
    · cases hc
  · cases hb
theorem span_nil (lo : Int) : Span [] lo 1 := ⟨uf_nil, Nat.le_refl _, Nat.zero_le _, fun x y => ⟨fun h => absurd h (ks_nil _ _), fun h => by omega⟩, rfl⟩

set_option maxRecDepth 100000 in
set_option maxHeartbeats 4000000 in
theorem chain_walk (n f : Int) (w : World) : Calls Try.prog 5 #[.int .i64 n, .int .i64 f] w fun e w' => e = .returned (.bool true) ∧ Below w.heap.size w w' := by
  have HS := hide (small_is w)
  go_enter Try.func5, Try.ntmps5
  go_wp2_with fail
  refine HS.out.mono ?_
  clear HS
  rintro e w1 ⟨rfl, hb1⟩
  have HN := hide (new_is w1)
  have hs1 := hb1.size
  go_wp2_with fail
  refine HN.out.mono ?_
  clear HN
  rintro e w2 ⟨rfl, hb2, hS2⟩
  have HN := hide (new_is w2)
  have hB2 := bel_two hb1 hb2
  go_wp2_with fail
  refine HN.out.mono ?_
  clear HN
  rintro e w3 ⟨rfl, hb3, hS3⟩
  have hTw := two_new w w2 w3 w1.heap.size hs1 hB2 hS2 hb3 hS3
  clear hS2 hS3 hb1 hb2 hb3 hB2 hs1
  generalize w1.heap.size = m1 at *
  generalize w2.heap.size = m2 at *
  generalize hX1 : m1 + 1 = X1 at *
  generalize hX2 : m2 + 1 = X2 at *
  clear hX1 hX2
  have HT := hide hTw
  clear hTw
  by_cases c1 : n < 2
  · have e1 : (n < 2) = True := eq_true c1
    clear c1
    go_wp2
    go_ret
    exact ⟨rfl, HT.out.bel⟩
  by_cases c2 : 60 < n
  · have e1 : (n < 2) = False := eq_false c1
    have e2 : (60 < n) = True := eq_true c2
    clear c1 c2
    go_wp2
    go_ret
    exact ⟨rfl, HT.out.bel⟩
  by_cases c3 : f < -1000
  · have e1 : (n < 2) = False := eq_false c1
    have e2 : (60 < n) = False := eq_false c2
    have e3 : (f < -1000) = True := eq_true c3
    clear c1 c2 c3
    go_wp2
    go_ret
    exact ⟨rfl, HT.out.bel⟩
  by_cases c4 : 1000 < f
  · have e1 : (n < 2) = False := eq_false c1
    have e2 : (60 < n) = False := eq_false c2
    have e3 : (f < -1000) = False := eq_false c3
    have e4 : (1000 < f) = True := eq_true c4
    clear c1 c2 c3 c4
    go_wp2
    go_ret
    exact ⟨rfl, HT.out.bel⟩
  have e1 : (n < 2) = False := eq_false c1
  have e2 : (60 < n) = False := eq_false c2
  have e3 : (f < -1000) = False := eq_false c3
  have e4 : (1000 < f) = False := eq_false c4
  have HC : Hid (2 ≤ n ∧ n ≤ 60 ∧ -1000 ≤ f ∧ f ≤ 1000) := by rw [Hid]; omega
  clear c1 c2 c3 c4
  go_wp2
  clear e1 e2 e3 e4
  go_loopw [8] (fun i W => ∃ (k : Nat) (s1 s2 : List Th) (v1 v2 : Value), i = .int .i64 (k : Int) ∧ (k : Int) ≤ n ∧ Two w W X1 m1 X2 m2 v1 v2 s1 s2 ∧ Span s1 f k ∧ Span s2 (f + n - k) k) (fun i _ => n.toNat - (RowKit.intOf i).toNat)
  case atStart => exact ⟨1, [], [], _, _, rfl, by have := HC.out; omega, HT.out, span_nil _, span_nil _⟩
  case round =>
    clear HT
    obtain ⟨k, s1, s2, v1, v2, rfl, hkn, hTw, hP1, hP2⟩ := hrel
    obtain ⟨hn1, hn2, hf1, hf2⟩ := HC.out
    have hk1 := hP1.2.1
    by_cases hlt : (k : Int) < n
    · have e1 : ((k : Int) < n) = True := eq_true hlt
      have HP1 := hide hP1
      have HP2 := hide hP2
      have HLT := hide hlt
      have HJ := hide (two_join (f + (k : Int) - 1) (f + (k : Int)) (by constructor <;> omega) (by constructor <;> omega) (by have := hP1.2.2.1; omega) hTw)
      clear hP1 hP2 hTw hlt
      go_wp2_with fail
      refine HJ.out.mono ?_
      clear HJ
      rintro e w4 ⟨s1', v1', r1, rfl, hTw4, hJ1⟩
      obtain ⟨rfl, hP1'⟩ := HP1.out.up hJ1
      have HJ := hide (two_join (f + n - (k : Int)) (f + n - (k : Int) - 1) (by constructor <;> omega) (by constructor <;> omega) (by have := HP2.out.2.2.1; omega) hTw4.swap)
      have HP1' := hide hP1'
      clear hJ1 hP1' HP1 hTw4
      go_wp2_with fail
      refine HJ.out.mono ?_
      clear HJ
      rintro e w5 ⟨s2', v2', r2, rfl, hTw5, hJ2⟩
      obtain ⟨rfl, hP2'⟩ := HP2.out.down hJ2
      have HF := hide (And.intro hTw5.swap hP2')
      clear hJ2 hP2' HP2 hTw5
      go_wp2
      go_roundw
      case rel => exact ⟨k + 1, s1', s2', v1', v2', by go_num, by have := HLT.out; omega, HF.out.1, HP1'.out, by have := HF.out.2; rwa [show f + n - ((k + 1 : Nat) : Int) = f + n - (k : Int) - 1 by omega]⟩
      case measure => have := HLT.out; simp [RowKit.intOf]; omega
    · have hkn' : (k : Int) = n := by omega
      subst hkn'
      have e1 : ((k : Int) < (k : Int)) = False := eq_false (by omega)
      have hP2' : Span s2 f k := by rwa [show f + (k : Int) - (k : Int) = f by omega] at hP2
      have hR1 : roots s1 = 1 := by have := hP1.2.2.2.2; omega
      have hR2 : roots s2 = 1 := by have := hP2'.2.2.2.2; omega
      have HP1 := hide hP1
      have HP2 := hide hP2'
      have HR := hide (And.intro hR1 hR2)
      have HT := hide hTw
      have HC1 := hide (classp_is _ X1 m1 v1 s1 (f + (k : Int) - 1) (by constructor <;> omega) (by have := hP1.2.2.1; omega) wr hTw.a)
      clear hP1 hP2 hP2' hTw hR1 hR2 hlt hkn
      go_wp2_with fail
      refine HC1.out.mono ?_
      clear HC1
      rintro e w4 ⟨v', l, rfl, ho4, hb4, hc4⟩
      have hl4 := HP1.out.list (by omega) (x := f + (k : Int) - 1) (by omega) (by omega) hc4
      subst hl4
      have hlen : (spanL f k).length = k := by simp
      have hr4 := RowN.of_ownsI ho4
      rw [hlen] at ho4
      obtain ⟨gb, cp, hv', -, hgl⟩ := ho4.form (by omega)
      subst hv'
      have c4 : w4.cell? ⟨gb, 0, none⟩ = some (.int .i64 f) := by rw [ho4.cellAt 0 (by omega)]; simp [intsI, show 0 < k by omega]
      have HT4 := hide (HT.out.below hb4)
      have HC2 := hide (classp_is _ X2 m2 v2 s2 f (by constructor <;> omega) (by have := HP2.out.2.2.1; omega) w4 HT4.out.b)
      have HR4 := hide hr4
      clear hr4 ho4 hc4 hb4 HT
      have e2 : ((k : Int) == (k : Int)) = true := by simp
      have e3 : (f == f) = true := by simp
      have e4 : ((0 : Int) < (k : Int)) = True := eq_true (by omega)
      go_wp2_with fail
      refine HC2.out.mono ?_
      clear HC2
      rintro e w5 ⟨v5, l5, rfl, ho5, hb5, hc5⟩
      have hl5 := HP2.out.list (by omega) (x := f) (by omega) (by omega) hc5
      subst hl5
      have hI := ints_same (W := w5) (xs := spanL f k) (by rw [hlen]; omega) (HR4.out.below hb5) (RowN.of_ownsI ho5)
      have HI := hide hI
      have HT5 := hide (HT4.out.below hb5)
      clear hI ho5 hc5 hb5 HT4 HR4
      clear hlen
      go_wp2_with fail
      refine HI.out.mono ?_
      clear HI
      rintro e w6 ⟨rfl, hq6⟩
      have HT6 := hide (HT5.out.below (bel_q hq6))
      have HL1 := hide (len_is _ X1 m1 v1 s1 w6 HT6.out.a)
      have HL2 := hide (len_is _ X2 m2 v2 s2 w6 HT6.out.b)
      rw [HR.out.1] at HL1
      rw [HR.out.2] at HL2
      have HJ := hide (two_join f (f + (k : Int) - 1) (by constructor <;> omega) (by constructor <;> omega) (by have := HP1.out.2.2.1; omega) HT6.out)
      clear hq6 HT5 HR HT6
      go_wp2_with fail
      refine HL1.out.mono ?_
      clear HL1
      rintro e w7 ⟨rfl, rfl⟩
      go_wp2_with fail
      refine HL2.out.mono ?_
      clear HL2
      rintro e w8 ⟨rfl, rfl⟩
      go_wp2_with fail
      refine HJ.out.mono ?_
      clear HJ
      rintro e w9 ⟨s1', v1', res, rfl, hTw9, hJ9⟩
      have hres : res = false := by
        obtain ⟨hU, h1, h2, hK, hR⟩ := HP1.out
        obtain ⟨-, -, E, hE, -, hr, -⟩ := hJ9.ks hU
        have : ¬ res = true := fun h => absurd (hr.1 h) (by rw [hE, hK]; omega)
        simpa using this
      subst hres
      have HF := hide hTw9.bel
      clear hTw9 hJ9
      go_wp2
      go_ret
      exact ⟨rfl, HF.out⟩

end Go.Proofs.Ytcebidhfgdchlaa
