/-
  All classes as rows (layer 8), in the order of their tops, then sorted.
-/
import Derived.Test.YtcebidhfgdchlaaCtC
import Derived.Test.YtcebidhfgdchlaaUnN
namespace Go.Proofs.Ytcebidhfgdchlaa
open Go.ChangeShapes Go.WideShapes Go.ChangeAt Go.RowKit

theorem rootsTo_le (st : List Th) : ∀ n, rootsTo st n ≤ n
  | 0 => Nat.le_refl 0
  | n + 1 => by rw [rootsTo_succ]; have := rootsTo_le st n; split <;> omega
/-- The tops, as they stand. -/
def rts (st : List Th) : Nat → List Nat
  | 0 => []
  | n + 1 => rts st n ++ (if (at_ st n).above = n then [n] else [])
theorem rts_len (st : List Th) : ∀ n, (rts st n).length = rootsTo st n
  | 0 => rfl
  | n + 1 => by rw [rootsTo_succ, rts, List.length_append, rts_len st n]; split <;> rfl
theorem mem_rts (st : List Th) (r : Nat) : ∀ n, r ∈ rts st n ↔ r < n ∧ (at_ st r).above = r
  | 0 => by simp [rts]
  | n + 1 => by
    rw [rts, List.mem_append, mem_rts st r n]
    by_cases h : (at_ st n).above = n
    · rw [if_pos h, List.mem_singleton]
      constructor
      · rintro (⟨h1, h2⟩ | rfl)
        · exact ⟨by omega, h2⟩
        · exact ⟨by omega, h⟩
      · rintro ⟨h1, h2⟩
        by_cases e : r = n
        · exact .inr e
        · exact .inl ⟨by omega, h2⟩
    · rw [if_neg h]
      simp only [List.not_mem_nil, or_false]
      constructor
      · rintro ⟨h1, h2⟩; exact ⟨by omega, h2⟩
      · rintro ⟨h1, h2⟩
        refine ⟨?_, h2⟩
        rcases Nat.lt_or_ge r n with h3 | h3
        · exact h3
        · obtain rfl : r = n := by omega
          exact absurd h2 h
/-- A class as a row. -/
def ClR (st : List Th) (r : Nat) (l : List Int) : Prop := l.length ≤ st.length ∧ l.Pairwise (· < ·) ∧ ∀ k, k ∈ l ↔ KS st (at_ st r).key k
def Cls (st : List Th) (p : Nat) (xss : List (List Int)) : Prop := ∃ L : Nat → List Int, xss = (rts st p).map L ∧ ∀ r, r ∈ rts st p → ClR st r (L r)
theorem Cls.none {st : List Th} {p : Nat} {xss : List (List Int)} (hc : Cls st p xss) (h : (at_ st p).above ≠ p) : Cls st (p + 1) xss := by
  obtain ⟨L, rfl, h2⟩ := hc
  have e : rts st (p + 1) = rts st p := by rw [rts, if_neg h, List.append_nil]
  exact ⟨L, by rw [e], by rw [e]; exact h2⟩
theorem Cls.more {st : List Th} {p : Nat} {xss : List (List Int)} {l : List Int} (hc : Cls st p xss) (h : (at_ st p).above = p) (hl : ClR st p l) : Cls st (p + 1) (xss ++ [l]) := by
  obtain ⟨L, rfl, h2⟩ := hc
  have e : rts st (p + 1) = rts st p ++ [p] := by rw [rts, if_pos h]
  refine ⟨fun r => if r = p then l else L r, ?_, fun r hr => ?_⟩
  · rw [e, List.map_append]
    congr 1
    · refine List.map_congr_left fun r hr => ?_
      have := ((mem_rts st r p).1 hr).1
      rw [if_neg (by omega)]
    · simp
  · rw [e, List.mem_append, List.mem_singleton] at hr
    by_cases hrp : r = p
    · subst hrp; show ClR st r (if r = r then l else L r); rw [if_pos rfl]; exact hl
    · show ClR st r (if r = p then l else L r); rw [if_neg hrp]; exact h2 r (hr.resolve_right hrp)
theorem Cls.len {st : List Th} {p : Nat} {xss : List (List Int)} (hc : Cls st p xss) : xss.length = rootsTo st p := by
  obtain ⟨L, rfl, _⟩ := hc
  rw [List.length_map, rts_len]

theorem Cls.pos {st : List Th} {p : Nat} {xss : List (List Int)} (hc : Cls st p xss) (hp : p ≤ st.length := by omega) : ∀ i, i < xss.length → 0 < (xss.getD i []).length := by
  obtain ⟨L, rfl, h2⟩ := hc
  intro i hi
  rw [List.length_map] at hi
  rw [List.getD_eq_getElem?_getD, List.getElem?_map, List.getElem?_eq_getElem hi]
  have hm := List.getElem_mem hi
  obtain ⟨_, _, h3⟩ := h2 _ hm
  obtain ⟨m1, m2⟩ := (mem_rts st _ p).1 hm
  have ht : Top st (rts st p)[i] (rts st p)[i] := .here (by omega) m2
  have := (h3 _).2 ⟨_, _, _, ht, ht, rfl, rfl⟩
  exact List.length_pos_of_mem this
theorem RowsI.lo {W : World} {base : Nat} {v : Value} {xss : List (List Int)} (h : RowsI W base v xss) {b : Nat} (hb : v.ownBlock = some b) : base ≤ b := by
  obtain ⟨vs, h1, _⟩ := h
  exact (h1.lt b hb).1
theorem make_rows (n : Nat) (hn : n ≤ 1000000) (w : World) : (Instr.makeSlice 43 (.int .i64 0) (.int .i64 (n : Int))).run Try.prog w = .ok (.slice (some ⟨w.heap.size, 0, none⟩) 0 n) (w.alloc (.cells (List.replicate n (.slice none 0 0)).toArray 36)) := by
  obtain ⟨i, h1, h2, h3, h4⟩ := typR
  have := run_make (P := Try.prog) (w := w) 43 36 i _ Try.underlying43 h1 h2 .i64 .i64 0 (n : Int) (by omega) (by omega) (by rw [h3]; omega) (by omega)
  rw [h4, show ((n : Int)).toNat = n by omega, show (0 : Int).toNat = 0 from rfl] at this
  rw [this]
  have e : madeCells (Value.slice none 0 0).cells (n * 1) = (List.replicate n (Value.slice none 0 0)).toArray := made_all n _
  rw [e]
theorem rowsI_none (w : World) (n : Nat) (hn : n ≤ 1000000) : RowsI (w.alloc (.cells (List.replicate n (.slice none 0 0)).toArray 36)) w.heap.size (.slice (some ⟨w.heap.size, 0, none⟩) 0 n) [] :=
  ⟨[], ⟨rfl, .inr ⟨w.heap.size, n, _, rfl, Nat.le_refl _, World.alloc_heap_new w _, Nat.zero_le _, by unfold maxLen; omega, by simp, by simp⟩⟩, fun i hi => absurd hi (by simp), fun i j u u' _ hi => by simp at hi⟩

set_option maxRecDepth 100000 in
set_option maxHeartbeats 4000000 in
theorem rows_is (base X mb : Nat) (v : Value) (st : List Th) (hl : st.length ≤ 100000) (w : World) (hS : SAt w base X mb v st) :
    Calls Try.prog 38 #[.pointer (some ⟨X, 0, none⟩)] w fun e w' => ∃ (v' : Value) (yss xss : List (List Int)), e = .returned v' ∧ Cls st st.length xss ∧ yss.Perm xss ∧ RowsI w' w.heap.size v' yss ∧ Below w.heap.size w w' := by
  obtain ⟨av, cap, rfl, -⟩ := owns_shape hS.row
  have c2 : w.cell? ⟨X, 2, none⟩ = some (.slice av st.length cap) := cell_of hS.box 2
  have c3 : w.cell? ⟨X, 3, none⟩ = some (.int .i64 (roots st : Int)) := cell_of hS.box 3
  have hXl := lt_of hS.box
  have HC : Hid (∀ k, k < st.length → ∃ TB, av = some ⟨TB, 0, none⟩ ∧ TB < w.heap.size ∧ ∀ f, f < 5 → w.cell? ⟨TB, k * 5 + f, none⟩ = (tcells (at_ st k))[f]?) := fun k hk => by
    obtain ⟨TB, cap', e, _, h1, h2⟩ := hS.cell hk
    injection e with e1
    exact ⟨TB, e1, h1, h2⟩
  have HSB : Hid (∀ W, Below w.heap.size w W → SAt W base X mb (.slice av st.length cap) st) := fun W hb => hS.below hb
  have hrl : roots st ≤ 100000 := Nat.le_trans (rootsTo_le st st.length) hl
  have mk := make_rows (roots st) (by omega) w
  have hR0 := rowsI_none w (roots st) (by omega)
  have hB0 := bel_new w (.cells (List.replicate (roots st) (.slice none 0 0)).toArray 36)
  have HR0 := hide (And.intro hR0 hB0)
  have HU : Hid (UF st) := hS.uf
  generalize hnn : st.length = n at *
  have HN := hide hnn
  clear hS hR0 hB0 hnn hrl
  go_enter Try.func38, Try.ntmps38
  go_wp2
  go_loopw [3, 16] (fun a b W => ∃ (k : Nat) (xss : List (List Int)), b = .int .i64 (k : Int) ∧ k ≤ n ∧ Cls st k xss ∧ RowsI W w.heap.size a xss ∧ Below w.heap.size w W) (fun _ b _ => n - (RowKit.intOf b).toNat)
  case atStart => exact ⟨0, [], rfl, Nat.zero_le _, ⟨fun _ => [], rfl, fun r hr => absurd hr (by simp [rts])⟩, HR0.out.1, HR0.out.2⟩
  case round =>
    obtain ⟨k, xss, rfl, hk, hCl, hR, hb⟩ := hrel
    have HB := hide hb
    have HR := hide hR
    have HCl := hide hCl
    clear hb hR hCl
    by_cases hlt : k < n
    · have e1 : ((k : Int) < (n : Int)) = True := eq_true (by omega)
      obtain ⟨TB, rfl, hTB, hc⟩ := HC.out k hlt
      have x0 : wr.cell? ⟨TB, k * 5, none⟩ = some (.int .i64 (at_ st k).key) := (HB.out.cell (p := ⟨TB, k * 5, none⟩) hTB).trans (hc 0 (by decide))
      have x1 : wr.cell? ⟨TB, k * 5 + 1, none⟩ = some (.int .i64 ((at_ st k).above : Int)) := (HB.out.cell (p := ⟨TB, k * 5 + 1, none⟩) hTB).trans (hc 1 (by decide))
      have x2 : wr.cell? ⟨TB, k * 5 + 2, none⟩ = some (.int .i64 ((at_ st k).next : Int)) := (HB.out.cell (p := ⟨TB, k * 5 + 2, none⟩) hTB).trans (hc 2 (by decide))
      have x3 : wr.cell? ⟨TB, k * 5 + 3, none⟩ = some (.int .i64 ((at_ st k).size : Int)) := (HB.out.cell (p := ⟨TB, k * 5 + 3, none⟩) hTB).trans (hc 3 (by decide))
      have x4 : wr.cell? ⟨TB, k * 5 + 4, none⟩ = some (.int .i64 (at_ st k).least) := (HB.out.cell (p := ⟨TB, k * 5 + 4, none⟩) hTB).trans (hc 4 (by decide))
      have hbb : k ≤ 1000000 := by omega
      by_cases he : (at_ st k).above = k
      · have HE := hide he
        rw [he] at x1
        have e2 : ((k : Int) == (k : Int)) = true := by simp
        clear he hc
        generalize (at_ st k).next = t2 at *
        generalize (at_ st k).size = t3 at *
        generalize (at_ st k).least = t4 at *
        go_wp2_with fail
        refine (class_is base X mb _ st k k (.here (by rw [HN.out]; exact hlt) HE.out) (by rw [HN.out]; exact hl) _ (HSB.out _ (bel_two HB.out (bel_new _ _)))).mono ?_
        rintro e w2 ⟨v1, l, rfl, hown, hbel, hll, hpw, hmem⟩
        obtain ⟨av1, cap1, rfl, -⟩ := owns_shape hown
        have hbw := bel_two (bel_new wr _) hbel
        have hb2 := bel_two HB.out hbw
        have hR2 := HR.out.turns (Turns.of_below hbw) (fun b _ h h2 => by omega)
        have hxl := HCl.out.len
        have hxl2 := rootsTo_le st k
        have hsz1 := HB.out.size
        have hsz2 := hb2.size
        have hown2 := owns_mono (base' := w.heap.size) hown (by rw [World.size_alloc]; omega)
        have hfr : ∀ (vs : List Value) (x : Value) (b : Nat), w2.ownsRow w.heap.size 36 1 _ xss.length vs → x ∈ vs → x.ownBlock = some b → (Value.slice av1 l.length cap1).ownBlock ≠ some b := fun vs x b h hx hb hc => by
          obtain ⟨vs0, g1, g2, _⟩ := HR.out
          have hvs : vs = vs0 := owns_det h (owns_below g1 hbw)
          subst hvs
          obtain ⟨i, hi, he⟩ := List.mem_iff_getElem.1 hx
          have hil : i < xss.length := by have := g1.1; omega
          obtain ⟨y, hy, hoy⟩ := g2 i hil
          rw [List.getElem?_eq_getElem hi, he] at hy
          injection hy with hy
          subst hy
          have h1 := (hoy.lt b hb).2
          have h2 := (hown.lt b hc).1
          rw [World.size_alloc] at h2
          omega
        obtain ⟨g, cp, w3, hap, hT3, hR3⟩ := rowsI_step hR2 43 _ l hown2 (by omega) hsz2 hfr
        have HAP := hide hap
        have HR3 := hide hR3
        have HB3 := hide (hb2.trans ⟨hT3.os, hT3.tape, hT3.output, hT3.size, fun b hb => hT3.block b (by omega) (by omega)⟩)
        have HCR : Hid (ClR st k l) := ⟨hll, hpw, hmem⟩
        clear hfr hbw hb2 hR2 hxl hxl2 hsz1 hsz2 hown2 hap hT3 hR3 hown hbel hll hpw hmem
        go_wp2_with (at_builtin; refine wpList_append_run rfl _ _ 43 rfl rfl rfl HAP.out ?_)
        go_roundw
        case rel => exact ⟨k + 1, xss ++ [l], by go_num, by omega, HCl.out.more HE.out HCR.out, HR3.out, HB3.out⟩
        case measure => simp [RowKit.intOf]; omega
      · have HE := hide he
        clear hc
        generalize (at_ st k).above = t1 at he x1
        have e2 : ((t1 : Int) == (k : Int)) = false := by rw [beq_eq_false_iff_ne]; omega
        clear he
        generalize (at_ st k).next = t2 at *
        generalize (at_ st k).size = t3 at *
        generalize (at_ st k).least = t4 at *
        generalize (at_ st k).key = t0 at x0
        have hbn := bel_new wr (.cells #[.int .i64 t0, .int .i64 (t1 : Int), .int .i64 (t2 : Int), .int .i64 (t3 : Int), .int .i64 t4] 56)
        have HB3 := hide (bel_two HB.out hbn)
        have HR3 := hide (HR.out.turns (Turns.of_below hbn) (fun b _ h h2 => by omega))
        clear hbn
        go_wp2
        go_roundw
        case rel => exact ⟨k + 1, xss, by go_num, by omega, HCl.out.none HE.out, HR3.out, HB3.out⟩
        case measure => simp [RowKit.intOf]; omega
    · have e1 : ((k : Int) < (n : Int)) = False := eq_false (by omega)
      obtain rfl : k = n := by omega
      have hxl := HCl.out.len
      have hxl2 := rootsTo_le st k
      have hpos := HCl.out.pos (by rw [HN.out]; exact Nat.le_refl _)
      have HS := hide (sort_rows w.heap.size _ xss hpos (by omega) wr HR.out)
      clear hxl hxl2 hpos
      go_wp2_with fail
      refine HS.out.mono ?_
      rintro e w4 ⟨rfl, yss, hperm, hR4, hT4⟩
      have HRES := hide (And.intro (show Cls st st.length xss by rw [HN.out]; exact HCl.out) (And.intro hperm (And.intro hR4 (show Below w.heap.size w w4 from HB.out.trans ⟨hT4.os, hT4.tape, hT4.output, hT4.size, fun b hb => hT4.block b (by have := HB.out.size; omega) (fun e => by have := HR.out.lo e; omega)⟩))))
      clear hperm hR4 hT4
      go_wp2
      go_ret
      exact ⟨_, yss, xss, rfl, by have := HRES.out.1; rw [HN.out] at this; exact this, HRES.out.2.1, HRES.out.2.2.1, HRES.out.2.2.2⟩
end Go.Proofs.Ytcebidhfgdchlaa
