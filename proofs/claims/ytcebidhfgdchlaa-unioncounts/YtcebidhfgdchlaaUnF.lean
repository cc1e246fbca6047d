/-
  Sets in memory (layer 8): contracts of Add and Same.
-/
import Derived.Test.YtcebidhfgdchlaaUnA
namespace Go.Proofs.Ytcebidhfgdchlaa
open Go.ChangeShapes Go.WideShapes Go.ChangeAt Go.RowKit Go.Shelf Go.Maps

set_option maxRecDepth 100000 in
theorem addp_is (base X mb : Nat) (v : Value) (st : List Th) (k : Int) (hk : Fits k) (hl : st.length ≤ 100000) (w : World) (hbase : base ≤ w.heap.size) (G : Nat → Prop) (hGX : G X) (hGm : G mb) (hGv : ∀ b, v.ownBlock = some b → G b) (hGn : ∀ b, w.heap.size ≤ b → G b) (h : SAt w base X mb v st) :
    Calls Try.prog 18 #[.pointer (some ⟨X, 0, none⟩), .int .i64 k] w fun e w' => ∃ (st' : List Th) (i : Nat) (new : Bool) (v' : Value), e = .returned (.bool new) ∧ Added st k st' i new ∧ SAt w' base X mb v' st' ∧ Turns G w w' ∧ ∀ b, v'.ownBlock = some b → G b := by
  have HA := hide (add_is base X mb v st k hk hl w hbase G hGX hGm hGv hGn h)
  clear h hGX hGm hGv hGn
  go_enter Try.func18, Try.ntmps18
  go_wp2_with fail
  refine HA.out.mono ?_
  clear HA
  rintro e w1 ⟨st1, i, n1, v1, rfl, had, hS, hT, hN⟩
  have HF := hide (And.intro had (And.intro hS (And.intro hT hN)))
  clear had hS hT hN
  go_wp2
  go_ret
  exact ⟨st1, i, n1, v1, rfl, HF.out.1, HF.out.2.1, HF.out.2.2⟩

noncomputable def ksB (st : List Th) (a b : Int) : Bool := @decide (KS st a b) (Classical.propDecidable _)
theorem ksB_true {st : List Th} {a b : Int} (h : KS st a b) : ksB st a b = true := @decide_eq_true _ (Classical.propDecidable _) h
theorem ksB_false {st : List Th} {a b : Int} (h : ¬ KS st a b) : ksB st a b = false := @decide_eq_false _ (Classical.propDecidable _) h
theorem ks_mem {st : List Th} {a b : Int} (h : KS st a b) : a ∈ st.map Th.key ∧ b ∈ st.map Th.key := by
  obtain ⟨i, j, r, h1, h2, h3, h4⟩ := h
  exact ⟨key_mem.2 ⟨i, h1.lt.1, h3⟩, key_mem.2 ⟨j, h2.lt.1, h4⟩⟩

set_option maxRecDepth 100000 in
set_option maxHeartbeats 1000000 in
theorem same_is (base X mb : Nat) (v : Value) (st : List Th) (a b : Int) (ha : Fits a) (hb : Fits b) (hl : st.length ≤ 1000000) (w : World) (h : SAt w base X mb v st) :
    Calls Try.prog 21 #[.pointer (some ⟨X, 0, none⟩), .int .i64 a, .int .i64 b] w fun e w' => e = .returned (.bool (ksB st a b)) ∧ w' = w := by
  have HA := hide (place_is base X mb v st a ha w h)
  have HB := hide (place_is base X mb v st b hb w h)
  have HS := hide h
  clear h
  go_enter Try.func21, Try.ntmps21
  go_wp2_with fail
  refine HA.out.mono ?_
  clear HA
  rintro e w1 ⟨rfl, ⟨i, hi, hik, rfl⟩ | ⟨hno, rfl⟩⟩
  · go_wp2_with fail
    refine HB.out.mono ?_
    clear HB
    rintro e w2 ⟨rfl, ⟨j, hj, hjk, rfl⟩ | ⟨hno, rfl⟩⟩
    · obtain ⟨r, hr⟩ := HS.out.uf.tops i hi
      obtain ⟨s, hs⟩ := HS.out.uf.tops j hj
      have HT1 := hide (top_is base X mb v st i r hr hl w2 HS.out)
      have HT2 := hide (top_is base X mb v st j s hs hl w2 HS.out)
      have HK : Hid (((r : Int) == (s : Int)) = ksB st a b) := by
        rw [Hid]
        by_cases e : r = s
        · subst e
          rw [ksB_true ⟨i, j, r, hr, hs, hik, hjk⟩]; simp
        · rw [ksB_false fun ⟨i', j', r', t1, t2, e1, e2⟩ => e (by
            have x1 := key_inj HS.out.uf t1.lt.1 hi (e1.trans hik.symm)
            have x2 := key_inj HS.out.uf t2.lt.1 hj (e2.trans hjk.symm)
            subst x1 x2
            rw [hr.det t1, hs.det t2])]
          exact beq_eq_false_iff_ne.2 (by omega)
      clear hr hs hi hj hik hjk HS
      go_wp2_with fail
      refine HT1.out.mono ?_
      clear HT1
      rintro e w3 ⟨rfl, rfl⟩
      go_wp2_with fail
      refine HT2.out.mono ?_
      clear HT2
      rintro e w4 ⟨rfl, rfl⟩
      generalize hkb : ksB st a b = kb at *
      have HKB := hide hkb
      clear hkb
      by_cases e : r = s
      · subst e
        have hk1 : kb = true := by have := HK.out; simpa using this.symm
        subst hk1
        clear HK
        go_wp2
        go_ret
        exact ⟨by rw [HKB.out]; rfl, rfl⟩
      · have q1 : ((r : Int) == (s : Int)) = false := beq_eq_false_iff_ne.2 (by omega)
        have q1' : ((r : Int) = (s : Int)) = False := eq_false (by omega)
        have hk1 : kb = false := by have := HK.out; rw [q1] at this; exact this.symm
        subst hk1
        clear HK
        go_wp2
        go_ret
        exact ⟨by rw [HKB.out]; rfl, rfl⟩
    · have HN : Hid (ksB st a b = false) := ksB_false fun h => hno (ks_mem h).2
      clear hno hi hik
      go_wp2
      go_ret
      exact ⟨by rw [HN.out]; rfl, rfl⟩
  · have HN : Hid (ksB st a b = false) := ksB_false fun h => hno (ks_mem h).1
    clear hno
    go_wp2_with fail
    refine HB.out.mono ?_
    clear HB
    rintro e w2 ⟨rfl, ⟨j, hj, hjk, rfl⟩ | ⟨hno, rfl⟩⟩
    · go_wp2
      go_ret
      exact ⟨by rw [HN.out]; rfl, rfl⟩
    · go_wp2
      go_ret
      exact ⟨by rw [HN.out]; rfl, rfl⟩

end Go.Proofs.Ytcebidhfgdchlaa
