/-
  The law UnionNames (layer 8): its walk.
-/
import Derived.Test.YtcebidhfgdchlaaSnQ
namespace Go.Proofs.Ytcebidhfgdchlaa
open Go.ChangeShapes Go.WideShapes Go.ChangeAt Go.RowKit Go.Shelf Go.Maps Go.Lib Go.Sort

theorem wrap64_id {n : Int} (h1 : -9223372036854775808 ≤ n) (h2 : n ≤ 9223372036854775807) : wrap64 n = n := by unfold wrap64; omega
def uu (a : Int) : Nat := (a % 18446744073709551616).toNat
theorem uu_lt (a : Int) : uu a < 2 ^ 64 := by unfold uu; omega
theorem uu_cast (a : Int) : ((uu a : Nat) : Int) = a % 18446744073709551616 := by unfold uu; omega
theorem ofInt_uu (a : Int) : (BitVec.ofInt 64 a).toNat = uu a := by rw [BitVec.toNat_ofInt]; rfl
theorem bits_and (a b : Int) : bits .and .i64 a b = wrap64 ((uu a &&& uu b : Nat) : Int) := by
  show IntKind.i64.wrap ((BitVec.ofInt 64 a &&& BitVec.ofInt 64 b).toNat : Nat) = _
  rw [BitVec.toNat_and, ofInt_uu, ofInt_uu, IntKind.wrap_i64]; unfold wrap64; rfl
theorem and_mask (n : Int) (k : Nat) (hk : k < 64) : bits .and .i64 n ((2 ^ k - 1 : Nat) : Int) = wrap64 (((uu n % 2 ^ k : Nat)) : Int) := by
  have hlt : 2 ^ k - 1 < 2 ^ 64 := by
    have := Nat.pow_lt_pow_right (a := 2) (by decide) hk
    omega
  have : uu ((2 ^ k - 1 : Nat) : Int) = 2 ^ k - 1 := by unfold uu; omega
  rw [bits_and, this, Nat.and_two_pow_sub_one_eq_mod]
theorem and_255 (n : Int) : bits .and .i64 n 255 = n % 256 := by
  have h := and_mask n 8 (by decide)
  have e : ((uu n % 2 ^ 8 : Nat) : Int) = n % 256 := by rw [Int.natCast_emod, uu_cast]; simp
  rw [e] at h
  rw [show (255 : Int) = ((2 ^ 8 - 1 : Nat) : Int) by decide, h, wrap64_id (by omega) (by omega)]
theorem NAt.own_lt {W : World} {base X mb : Nat} {v : Value} {st : List Th} (h : NAt W base X mb v st) {b : Nat} (hb : Own X mb v b) : b < W.heap.size ∧ base ≤ b := by
  rcases hb with rfl | rfl | hb
  · exact ⟨lt_of h.box, h.bX⟩
  · exact ⟨h.map.lt, h.bm⟩
  · exact ⟨(h.row.lt b hb).2, (h.row.lt b hb).1⟩
theorem NAt.mono {W : World} {base base' X mb : Nat} {v : Value} {st : List Th} (h : NAt W base X mb v st) (hb : base' ≤ base) : NAt W base' X mb v st :=
  ⟨h.box, owns_mono h.row hb, h.map, h.uf, by have := h.bX; omega, by have := h.bm; omega⟩
/-- Sets of numbers and sets of names, apart. -/
structure TwoN (w W : World) (X1 m1 X2 m2 : Nat) (v1 v2 : Value) (s1 s2 : List Th) : Prop where
  a : SAt W w.heap.size X1 m1 v1 s1
  b : NAt W w.heap.size X2 m2 v2 s2
  ap : ∀ b, Own X1 m1 v1 b → ¬ Own X2 m2 v2 b
  bel : Below w.heap.size w W
theorem TwoN.below {w W W' : World} {X1 m1 X2 m2 : Nat} {v1 v2 : Value} {s1 s2 : List Th} (h : TwoN w W X1 m1 X2 m2 v1 v2 s1 s2) (hb : Below W.heap.size W W') : TwoN w W' X1 m1 X2 m2 v1 v2 s1 s2 :=
  ⟨h.a.below hb, h.b.below hb, h.ap, h.bel.trans (hb.mono h.bel.size)⟩
theorem twoN_join {w W : World} {X1 m1 X2 m2 : Nat} {v1 v2 : Value} {s1 s2 : List Th} (a b : Int) (ha : Fits a) (hb : Fits b) (hl : s1.length ≤ 50000) (h : TwoN w W X1 m1 X2 m2 v1 v2 s1 s2) :
    Calls Try.prog 9 #[.pointer (some ⟨X1, 0, none⟩), .int .i64 a, .int .i64 b] W fun e W' => ∃ (s1' : List Th) (v1' : Value) (res : Bool), e = .returned (.bool res) ∧ TwoN w W' X1 m1 X2 m2 v1' v2 s1' s2 ∧ JoinR s1 a b s1' res := by
  refine (join_is w.heap.size X1 m1 v1 s1 a b ha hb hl W h.bel.size (fun b => Own X1 m1 v1 b ∨ W.heap.size ≤ b) (.inl (.inl rfl)) (.inl (.inr (.inl rfl))) (fun b hb => .inl (.inr (.inr hb))) (fun b hb => .inr hb) h.a).mono ?_
  rintro e W' ⟨s1', v1', res, he, hS, hT, hv, hJ⟩
  have hno : ∀ c, Own X2 m2 v2 c → ¬ (Own X1 m1 v1 c ∨ W.heap.size ≤ c) := fun c hc hq => by
    have := (h.b.own_lt hc).1
    rcases hq with hq | hq
    · exact h.ap c hq hc
    · omega
  refine ⟨s1', v1', res, he, ⟨hS, h.b.turns hT (hno _ (.inl rfl)) (hno _ (.inr (.inl rfl))) (fun c hc => hno c (.inr (.inr hc))), fun c hc hc2 => ?_, ?_⟩, hJ⟩
  · rcases hc with hc | hc | hc
    · exact h.ap c (.inl hc) hc2
    · exact h.ap c (.inr (.inl hc)) hc2
    · exact hno c hc2 (hv c hc)
  · exact hT.below h.bel h.bel.size (fun c hc hq => by
      rcases hq with hq | hq
      · have := (h.a.own_lt hq).2; omega
      · have := h.bel.size; omega)
theorem twoN_joinN {w W : World} {X1 m1 X2 m2 : Nat} {v1 v2 : Value} {s1 s2 : List Th} (a b : Int) (ha : Fk a) (hb : Fk b) (hl : s2.length ≤ 50000) (h : TwoN w W X1 m1 X2 m2 v1 v2 s1 s2) :
    Calls Try.prog 10 #[.pointer (some ⟨X2, 0, none⟩), .string (kt a), .string (kt b)] W fun e W' => ∃ (s2' : List Th) (v2' : Value) (res : Bool), e = .returned (.bool res) ∧ TwoN w W' X1 m1 X2 m2 v1 v2' s1 s2' ∧ JoinR s2 a b s2' res := by
  refine (joinN_is w.heap.size X2 m2 v2 s2 a b ha hb hl W h.bel.size (fun b => Own X2 m2 v2 b ∨ W.heap.size ≤ b) (.inl (.inl rfl)) (.inl (.inr (.inl rfl))) (fun b hb => .inl (.inr (.inr hb))) (fun b hb => .inr hb) h.b).mono ?_
  rintro e W' ⟨s2', v2', res, he, hS, hT, hv, hJ⟩
  have hno : ∀ c, Own X1 m1 v1 c → ¬ (Own X2 m2 v2 c ∨ W.heap.size ≤ c) := fun c hc hq => by
    have := (h.a.own_lt hc).1
    rcases hq with hq | hq
    · exact h.ap c hc hq
    · omega
  refine ⟨s2', v2', res, he, ⟨h.a.turns hT (hno _ (.inl rfl)) (hno _ (.inr (.inl rfl))) (fun c hc => hno c (.inr (.inr hc))), hS, fun c hc hc2 => ?_, ?_⟩, hJ⟩
  · rcases hc2 with hc2 | hc2 | hc2
    · exact h.ap c hc (.inl hc2)
    · exact h.ap c hc (.inr (.inl hc2))
    · exact hno c hc (hv c hc2)
  · exact hT.below h.bel h.bel.size (fun c hc hq => by
      rcases hq with hq | hq
      · have := (h.b.own_lt hq).2; omega
      · have := h.bel.size; omega)
theorem twoN_new (w W1 W2 : World) (B : Nat) (hB : w.heap.size ≤ B) (hb1 : Below w.heap.size w W1) (h1 : SAt W1 B (B + 1) B (.slice none 0 0) []) (hb2 : Below W1.heap.size W1 W2) (h2 : NAt W2 W1.heap.size (W1.heap.size + 1) W1.heap.size (.slice none 0 0) []) :
    TwoN w W2 (B + 1) B (W1.heap.size + 1) W1.heap.size (.slice none 0 0) (.slice none 0 0) [] [] := by
  have hl := lt_of h1.box
  refine ⟨(h1.below hb2).mono hB, h2.mono hb1.size, fun b hb hc => ?_, hb1.trans (hb2.mono hb1.size)⟩
  rcases hb with hb | hb | hb
  · rcases hc with hc | hc | hc
    · omega
    · omega
    · cases hc
  · rcases hc with hc | hc | hc
    · omega
    · omega
    · cases hc
  · cases hb
/-- Two sets are alike. -/
structure Like (s1 s2 : List Th) (k : Nat) : Prop where
  ua : UF s1
  ub : UF s2
  la : s1.length ≤ 2 * k
  lb : s2.length ≤ 2 * k
  ks : ∀ x y, KS s1 x y ↔ KS s2 x y
  rt : roots s1 = roots s2
theorem Like.nil : Like [] [] 0 := ⟨uf_nil, uf_nil, Nat.le_refl _, Nat.le_refl _, fun _ _ => Iff.rfl, rfl⟩
theorem bool_iff {p q : Bool} (h : p = true ↔ q = true) : p = q := by cases p <;> cases q <;> simp_all
theorem Like.join {s1 s2 s1' s2' : List Th} {k : Nat} {a b : Int} {r1 r2 : Bool} (h : Like s1 s2 k) (h1 : JoinR s1 a b s1' r1) (h2 : JoinR s2 a b s2' r2) : r1 = r2 ∧ Like s1' s2' (k + 1) ∧ KS s1' a a ∧ KS s1' b b := by
  obtain ⟨hU1, hl1, E1, hE1, hK1, hr1, n1, n2, hn1, hn2, ht1⟩ := h1.ks h.ua
  obtain ⟨hU2, hl2, E2, hE2, hK2, hr2, m1, m2, hm1, hm2, ht2⟩ := h2.ks h.ub
  have hE : ∀ x y, E1 x y ↔ E2 x y := fun x y => by rw [hE1, hE2, h.ks]
  have hr : r1 = r2 := bool_iff (by rw [hr1, hr2, hE])
  have hn : n1 = m1 := bool_iff (by rw [hn1, hm1, h.ks])
  have hm : n2 = m2 := bool_iff (by rw [hn2, hm2, h.ks])
  subst hr hn hm
  refine ⟨rfl, ⟨hU1, hU2, by have := h.la; omega, by have := h.lb; omega, fun x y => by rw [hK1, hK2, hE, hE, hE, hE, hE], by have := h.rt; omega⟩, ?_, ?_⟩
  · rw [hK1, hE1]; exact .inl (.inr (.inl ⟨rfl, rfl⟩))
  · rw [hK1, hE1]; exact .inl (.inr (.inr ⟨rfl, rfl⟩))
theorem LeastOf.same {s1 s2 : List Th} (h : ∀ x y, KS s1 x y ↔ KS s2 x y) {k f g : Int} (h1 : LeastOf s1 k f) (h2 : LeastOf s2 k g) : f = g := by
  have a := h1.2 g ((h _ _).2 h2.1)
  have b := h2.2 f ((h _ _).1 h1.1)
  omega
theorem IsClass.same {s1 s2 : List Th} (h : ∀ x y, KS s1 x y ↔ KS s2 x y) {k : Int} {l m : List Int} (h1 : IsClass s1 k l) (h2 : IsClass s2 k m) : l = m :=
  riseI_ext h1.2.1 h2.2.1 (fun t => by rw [h1.2.2, h2.2.2, h])
theorem NAt.fk {W : World} {base X mb : Nat} {v : Value} {st : List Th} (h : NAt W base X mb v st) {k x : Int} (hk : KS st k x) : Fk x := by
  obtain ⟨D, _, _, _, hnm⟩ := h.map
  exact hnm _ (ks_mem hk).2

set_option maxRecDepth 100000 in
set_option maxHeartbeats 4000000 in
theorem names_walk (v : Value) (n : Nat) (w : World) (hr : PairRow w v n) : Calls Try.prog 3 #[v] w fun e w' => e = .returned (.bool true) ∧ Below w.heap.size w w' := by
  obtain ⟨av, cap, blk, off, rfl, ha, hc⟩ := hr
  have HC := hide hc
  have HA := hide ha
  clear hc ha
  have HS := hide (small_is w)
  go_enter Try.func3, Try.ntmps3
  go_wp2_with fail
  refine HS.out.mono ?_
  clear HS
  rintro e w1 ⟨rfl, hb1⟩
  have HN := hide (new_is w1)
  have hs1 := hb1.size
  go_wp2_with fail
  refine HN.out.mono ?_
  clear HN
  rintro e w2 ⟨rfl, hb2, hS2⟩
  have HN := hide (newN_is w2)
  have hB2 := bel_two hb1 hb2
  go_wp2_with fail
  refine HN.out.mono ?_
  clear HN
  rintro e w3 ⟨rfl, hb3, hS3⟩
  have hTw := twoN_new w w2 w3 w1.heap.size hs1 hB2 hS2 hb3 hS3
  clear hS2 hS3 hb1 hb2 hb3 hB2 hs1
  generalize w1.heap.size = m1 at *
  generalize w2.heap.size = m2 at *
  generalize hX1 : m1 + 1 = X1 at *
  generalize hX2 : m2 + 1 = X2 at *
  clear hX1 hX2
  have HT := hide hTw
  clear hTw
  by_cases hbig : 100 < n
  · have e1 : ((100 : Int) < (n : Int)) = True := eq_true (by omega)
    have HF := hide HT.out.bel
    go_wp2
    go_ret
    exact ⟨rfl, HF.out⟩
  have e1 : ((100 : Int) < (n : Int)) = False := eq_false (by omega)
  go_wp2
  clear e1
  go_loopw [6] (fun i W => ∃ (k : Nat) (s1 s2 : List Th) (v1 v2 : Value), i = .int .i64 (k : Int) ∧ k ≤ n ∧ TwoN w W X1 m1 X2 m2 v1 v2 s1 s2 ∧ Like s1 s2 k) (fun i _ => n - (RowKit.intOf i).toNat)
  case atStart => exact ⟨0, [], [], _, _, rfl, Nat.zero_le _, HT.out, Like.nil⟩
  case round =>
    clear HT
    obtain ⟨k, s1, s2, v1, v2, rfl, hk, hTw, hL⟩ := hrel
    by_cases hlt : k < n
    · have e1 : ((k : Int) < (n : Int)) = True := eq_true (by omega)
      obtain ⟨rfl, hblk⟩ := HA.out (by omega)
      obtain ⟨p, q, wp, wq, x0, x1⟩ := HC.out k hlt
      have x0 := (hTw.bel.cell (p := ⟨blk, off + k * 2, none⟩) hblk).trans x0
      have x1 := (hTw.bel.cell (p := ⟨blk, off + k * 2 + 1, none⟩) hblk).trans x1
      obtain ⟨a, hpa, haf⟩ : ∃ a, bits .and .i64 p 255 = a ∧ Fk a := ⟨_, rfl, by rw [and_255]; constructor <;> omega⟩
      obtain ⟨b, hqb, hbf⟩ : ∃ b, bits .and .i64 q 255 = b ∧ Fk b := ⟨_, rfl, by rw [and_255]; constructor <;> omega⟩
      have haF : Fits a := by have := haf.1; have := haf.2; constructor <;> omega
      have hbF : Fits b := by have := hbf.1; have := hbf.2; constructor <;> omega
      have HJ := hide (twoN_join a b haF hbF (by have := hL.la; omega) hTw)
      have HL := hide hL
      have HBD := hide (And.intro haf (And.intro hbf (And.intro haF hbF)))
      clear hTw hL haf hbf haF hbF
      go_wp2_with fail
      refine HJ.out.mono ?_
      clear HJ
      rintro e w4 ⟨s1', v1', r1, rfl, hTw, hJ1⟩
      have HJ1 := hide hJ1
      have HK := hide (key_is a HBD.out.1 w4)
      have HTW := hide hTw
      clear hTw hJ1 x0 x1
      go_wp2_with fail
      refine HK.out.mono ?_
      clear HK
      rintro e w5 ⟨rfl, hb5⟩
      have HK := hide (key_is b HBD.out.2.1 w5)
      have HTW5 := hide (HTW.out.below hb5)
      clear hb5 HTW
      go_wp2_with fail
      refine HK.out.mono ?_
      clear HK
      rintro e w6 ⟨rfl, hb6⟩
      have HJ := hide (twoN_joinN a b HBD.out.1 HBD.out.2.1 (by have := HL.out.lb; omega) (HTW5.out.below hb6))
      clear hb6 HTW5
      go_wp2_with fail
      refine HJ.out.mono ?_
      clear HJ
      rintro e w7 ⟨s2', v2', r2, rfl, hTw, hJ2⟩
      obtain ⟨hr, hL', hka, hkb⟩ := HL.out.join HJ1.out hJ2
      subst hr
      have HL' := hide hL'
      have hf0 : (r1 != r1) = false := by cases r1 <;> rfl
      have HKA := hide hka
      have HKB := hide hkb
      have HF1 := hide (find_is _ X1 m1 v1' s1' a HBD.out.2.2.1 (by have := hL'.la; omega) w7 hTw.a)
      have HTW := hide hTw
      clear hJ2 hL' hka hkb hTw HL HJ1
      go_wp2_with fail
      refine HF1.out.mono ?_
      clear HF1
      rintro e w8 ⟨hq8, ⟨hno, _⟩ | ⟨f, hf, rfl⟩⟩
      · exact absurd (ks_mem HKA.out).1 hno
      have HF := hide hf
      have HTW8 := hide (HTW.out.below (bel_q hq8))
      have HK := hide (key_is a HBD.out.1 w8)
      clear hq8 HTW hf
      go_wp2_with fail
      refine HK.out.mono ?_
      clear HK
      rintro e w9 ⟨rfl, hb9⟩
      have hT9 := HTW8.out.below hb9
      have HF2 := hide (findN_is _ X2 m2 v2' s2' a HBD.out.1 (by have := HL'.out.lb; omega) w9 hT9.b)
      have HTW9 := hide hT9
      clear hb9 HTW8 hT9
      go_wp2_with fail
      refine HF2.out.mono ?_
      clear HF2
      rintro e w10 ⟨hq10, ⟨hno, _⟩ | ⟨f2, hf2, rfl⟩⟩
      · exact absurd (ks_mem ((HL'.out.ks _ _).1 HKA.out)).1 hno
      obtain rfl := HF.out.same HL'.out.ks hf2
      have hT10 := HTW9.out.below (bel_q hq10)
      have hff : Fk f := hT10.b.fk hf2.1
      have HC1 := hide (classp_is _ X1 m1 v1' s1' b HBD.out.2.2.2 (by have := HL'.out.la; omega) w10 hT10.a)
      have HTW10 := hide hT10
      have HFF := hide hff
      clear hq10 hT10 HTW9 hf2 hff
      go_wp2_with fail
      refine HC1.out.mono ?_
      clear HC1
      rintro e w11 ⟨u1, l, rfl, ho11, hb11, hc11⟩
      have HC11 := hide hc11
      have HO11 := hide ho11
      have HTW11 := hide (HTW10.out.below hb11)
      have HK := hide (key_is b HBD.out.2.1 w11)
      clear hc11 ho11 hb11 HTW10
      go_wp2_with fail
      refine HK.out.mono ?_
      clear HK
      rintro e w12 ⟨rfl, hb12⟩
      have hT12 := HTW11.out.below hb12
      have HO12 := hide (owns_below HO11.out hb12)
      have HC2 := hide (classpN_is _ X2 m2 v2' s2' b HBD.out.2.1 (by have := HL'.out.lb; omega) w12 hT12.b)
      have HTW12 := hide hT12
      clear hb12 HTW11 HO11 hT12
      go_wp2_with fail
      refine HC2.out.mono ?_
      clear HC2
      rintro e w13 ⟨u2', l2, rfl, ho13, hb13, hc13⟩
      obtain rfl := IsClass.same HL'.out.ks HC11.out hc13
      have hlb : b ∈ l := (HC11.out.2.2 b).2 HKB.out
      have hlf : ∀ x ∈ l, Fk x := fun x hx => HTW12.out.b.fk ((HL'.out.ks _ _).1 ((HC11.out.2.2 x).1 hx))
      have hll : l.length ≤ 1000 := by have := HC11.out.1; have := HL'.out.la; omega
      have hl0 : 0 < l.length := List.length_pos_of_mem hlb
      have ho12 := owns_below HO12.out hb13
      obtain ⟨g1, c1, hv1, -, hg1⟩ := ho12.form hl0
      obtain ⟨g2, c2, hv2, -, hg2⟩ := ho13.form hl0
      subst hv1 hv2
      have HX1 : Hid (∀ j, j < l.length → w13.cell? ⟨g1, j, none⟩ = some (.int .i64 (l.getD j 0))) := fun j hj => by
        rw [ho12.cellAt j (by omega), List.getElem?_map, List.getD_eq_getElem?_getD, List.getElem?_eq_getElem hj]; rfl
      have HX2 : Hid (∀ j, j < l.length → w13.cell? ⟨g2, j, none⟩ = some (.string (kt (l.getD j 0)))) := fun j hj => by
        rw [ho13.cellAt j (by omega), List.getElem?_map, List.getD_eq_getElem?_getD, List.getElem?_eq_getElem hj]; rfl
      have HLF : Hid (∀ j, j < l.length → Fk (l.getD j 0)) := fun j hj => by
        rw [List.getD_eq_getElem?_getD, List.getElem?_eq_getElem hj]; exact hlf _ (List.getElem_mem hj)
      have hT13 := HTW12.out.below hb13
      have HTW13 := hide hT13
      have HK := hide (key_is f HFF.out w13)
      have hft : ((kt f).toList != (kt f).toList) = false := by simp
      generalize l.length = nl at *
      have hnn : ((nl : Int) != (nl : Int)) = false := by simp
      clear ho12 ho13 hc13 hb13 hlb hlf HO12 HTW12 hT13 HC11 HF HFF HKA HKB
      go_wp2_with fail
      refine HK.out.mono ?_
      clear HK
      rintro e w14 ⟨rfl, hb14⟩
      have hT14 := HTW13.out.below hb14
      have HLn1 := hide (len_is _ X1 m1 v1' s1' w14 hT14.a)
      have HLn2 := hide (lenN_is _ X2 m2 v2' s2' w14 hT14.b)
      rw [← HL'.out.rt] at HLn2
      have hrr : ((roots s1' : Int) != (roots s1' : Int)) = false := by simp
      have HTW14 := hide hT14
      have HB14 := hide hb14
      clear hb14 hT14 HTW13
      generalize roots s1' = rr at *
      go_wp2_with fail
      refine HLn1.out.mono ?_
      clear HLn1
      rintro e w15 ⟨rfl, rfl⟩
      go_wp2_with fail
      refine HLn2.out.mono ?_
      clear HLn2
      rintro e w16 ⟨rfl, rfl⟩
      go_wp2_with fail
      clear hft hnn hrr hf0
      go_loopw [15] (fun i W => ∃ j : Nat, i = .int .i64 (j : Int) ∧ j ≤ nl ∧ Below w16.heap.size w16 W) (fun i _ => nl - (RowKit.intOf i).toNat)
      case atStart => exact ⟨0, rfl, Nat.zero_le _, Below.refl _ _⟩
      case round =>
        obtain ⟨j, rfl, hj, hbr⟩ := hrel
        by_cases hlj : j < nl
        · have e2 : ((j : Int) < (nl : Int)) = True := eq_true (by omega)
          have hb13r := bel_two HB14.out hbr
          have y1 := (hb13r.cell (p := ⟨g1, j, none⟩) hg1).trans (HX1.out j hlj)
          have y2 := (hb13r.cell (p := ⟨g2, j, none⟩) hg2).trans (HX2.out j hlj)
          have hfl := HLF.out j hlj
          generalize l.getD j 0 = z at *
          have z1 := fun d os => cell_regrown y1 d os
          have z2 := fun d os => cell_regrown y2 d os
          have CL : Hid (∀ d os, Calls Try.prog 11 #[.int .i64 z] (Sort.grow (redrawn wr d) os) fun e w'' => e = .returned (.string (kt z)) ∧ ∃ p : Regrown, w'' = Sort.grow (redrawn wr p.d) p.os) := fun d os => Calls.regrown_of (key_is z hfl _)
          have hzz : ((kt z).toList != (kt z).toList) = false := by simp
          have HBR := hide hbr
          clear hbr hb13r hfl y1 y2
          go_wp2_with fail
          refine wp_region_quiet_below (by kernel_rfl) (by kernel_rfl) ?_
          repeat (go_big_quiet_step (first | (go_at_call 11; exact CL.out _ _)))
          refine wpQuiet_nil ?_
          intro w17 hw'
          have hb17 : Below wr.heap.size wr w17 := by obtain ⟨⟨dq, osq⟩, hw''⟩ := hw'; rw [hw'']; exact below_regrown wr dq osq
          have HB17 := hide (bel_two HBR.out hb17)
          clear hw' hb17
          go_wp2
          go_roundw
          case rel => exact ⟨j + 1, by go_num, hlj, HB17.out⟩
          case measure => simp [RowKit.intOf]; omega
        · have e2 : ((j : Int) < (nl : Int)) = False := eq_false (by omega)
          have HTW := hide (HTW14.out.below hbr)
          clear hbr
          go_wp2
          go_roundw
          case rel => exact ⟨k + 1, s1', s2', v1', v2', by go_num, hlt, HTW.out, HL'.out⟩
          case measure => simp [RowKit.intOf]; omega
    · have e1 : ((k : Int) < (n : Int)) = False := eq_false (by omega)
      have HF := hide hTw.bel
      clear hTw hL
      go_wp2
      go_ret
      exact ⟨rfl, HF.out⟩

end Go.Proofs.Ytcebidhfgdchlaa
