/-
  The document's own Depth (layer 7): its contract.
-/
import Derived.Test.YtonoeodlchkiaaaDep
namespace Go.Proofs.Ytonoeodlchkiaaa
open Go.ChangeShapes Go.WideShapes Go.ChangeAt Go.RowKit Go.Shelf

/-- One number more behind a row of one's own, whichever number. -/
theorem int_moreI {W : World} {base : Nat} {v : Value} {l : List Int} (h : W.ownsRow base 3 1 v l.length (intsI l)) (x : Int) (ty : TypeId) (hl : l.length ≤ 100000000) (hbase : base ≤ W.heap.size) :
    ∃ g cap w', (Builtin.append_ #[25, 25] ty #[v, .slice (some ⟨W.heap.size, 0, none⟩) 1 1]).run Try.prog (W.alloc (.cells #[.int .i64 x] 3)) = .ok (.slice (some ⟨g, 0, none⟩) (l.length + 1) cap) w' ∧ w'.ownsRow base 3 1 (.slice (some ⟨g, 0, none⟩) (l.length + 1) cap) (l ++ [x]).length (intsI (l ++ [x])) ∧ Turns (fun b => base ≤ b) W w' := by
  obtain ⟨g, cap, w', hap, ho, hgb, -, -⟩ := app_int W ty base v l.length (intsI l) h x hl hbase
  refine ⟨g, cap, w', hap, ?_, grown_turns h hgb⟩
  rw [List.length_append, intsI, List.map_append]
  exact ho
theorem Deep.chain {g : List (List Nat)} {o : List Nat} {d e : List Int} (h : Deep g o d e) {b : Nat} {s : List Nat} {x : Nat} (hc : Chain d b s x) : ask e b = ask e x + (s.length : Int) := by
  induction hc with
  | nil => simp
  | @snoc s x y _ e ih =>
    rw [ih, h.up x y e, List.length_append]
    simp
    omega
/-- The first k of a row. -/
def rowTo (e : List Int) (k : Nat) : List Int := (List.range k).map (ask e)
theorem rowTo_len (e : List Int) (k : Nat) : (rowTo e k).length = k := by simp [rowTo]
theorem rowTo_succ (e : List Int) (k : Nat) : rowTo e (k + 1) = rowTo e k ++ [ask e k] := by unfold rowTo; rw [List.range_succ, List.map_append]; rfl
theorem rowTo_all (e : List Int) : rowTo e e.length = e := by
  apply List.ext_getElem?
  intro i
  unfold rowTo
  rw [List.getElem?_map]
  by_cases hi : i < e.length
  · rw [List.getElem?_range hi]
    simp only [Option.map_some, ask]
    rw [List.getD_eq_getElem?_getD, List.getElem?_eq_getElem hi]; rfl
  · rw [List.getElem?_eq_none (by simp; omega), List.getElem?_eq_none (by omega)]; rfl

set_option maxRecDepth 100000 in
set_option maxHeartbeats 4000000 in
theorem rdepth_is (g : List (List Nat)) (hmost : g.length ≤ 4096) (o : List Nat) (ho : Ord g o) (d : List Int) (hf : Fin g o d) (de : List Int) (hde : Deep g o d de) (B : Nat) (w : World) (hB : w.heap[B]? = some (.cells (intsI d).toArray 3 (0, 0))) :
    Calls Try.prog 18 #[.slice (some ⟨B, 0, none⟩) g.length g.length] w fun e w' => Below w.heap.size w w' ∧ ∃ v, e = .returned v ∧ w'.ownsRow w.heap.size 3 1 v de.length (intsI de) := by
  have hlen := hf.len
  have hBl := lt_of hB
  have HB := hide hB
  have HO := hide ho
  have HF := hide hf
  have HD := hide hde
  clear hB ho hf hde
  generalize hhs : w.heap.size = hs at *
  go_enter Try.func18, Try.ntmps18
  go_wp2
  go_loopw [4, 3] (fun i v W => ∃ k : Nat, i = .int .i64 k ∧ k ≤ g.length ∧ Below hs w W ∧ W.ownsRow hs 3 1 v (rowTo de k).length (intsI (rowTo de k))) (fun i _ _ => g.length - (intOf i).toNat)
  case atStart => exact ⟨0, rfl, Nat.zero_le _, by rw [← hhs]; exact Below.refl _ _, World.ownsRow_nil _ _ _ _⟩
  case round =>
    obtain ⟨k, rfl, hk, hb, hO⟩ := hrel
    have hsb := hb.size
    rw [hhs] at hsb
    obtain ⟨vav, vcap, hve, -⟩ := owns_shape hO
    rw [rowTo_len] at hve
    subst hve
    by_cases hkl : k < g.length
    · have e1 : ((k : Int) < (g.length : Int)) = True := eq_true (by omega)
      have HC : Hid (∀ x, x < g.length → wr.cell? ⟨B, x, none⟩ = some (.int .i64 (ask d x))) := fun x hx => ints_at ((hb.block B (by omega)).trans HB.out) x (by omega)
      have hbd := HD.out.bound k
      have hpl := plc_le_len HO.out k
      have HADD : Hid (∀ x : Int, x = ask de k → ∃ g2 cap w2, (Builtin.append_ #[25, 25] 25 #[.slice vav k vcap, .slice (some ⟨wr.heap.size, 0, none⟩) 1 1]).run Try.prog (wr.alloc (.cells #[.int .i64 x] 3)) = .ok (.slice (some ⟨g2, 0, none⟩) (k + 1) cap) w2 ∧ Below hs w w2 ∧ w2.ownsRow hs 3 1 (.slice (some ⟨g2, 0, none⟩) (k + 1) cap) (rowTo de (k + 1)).length (intsI (rowTo de (k + 1)))) := fun x hx => by
        obtain ⟨g2, cap, w2, hap, ho2, hT2⟩ := int_moreI hO x 25 (by rw [rowTo_len]; omega) hsb
        rw [rowTo_len] at hap ho2
        rw [hx, ← rowTo_succ] at ho2
        exact ⟨g2, cap, w2, by rw [hx] at hap ⊢; exact hap, hT2.below hb hsb (fun b hb hq => by omega), ho2⟩
      clear hO
      generalize hW0 : wr = w0 at *
      clear hW0
      by_cases hko : k ∈ o
      · have hkt := HF.out.told hko
        go_wp2
        go_loopw [6, 5] (fun a n W => ∃ (c : Nat) (s : List Nat), a = .int .i64 (c : Int) ∧ n = .int .i64 (s.length : Int) ∧ W = w0 ∧ Chain d k s c) (fun _ n _ => g.length + 1 - (intOf n).toNat)
        case atStart => exact ⟨k, [], rfl, rfl, rfl, .nil⟩
        case round =>
          obtain ⟨c, s, rfl, rfl, rfl, hch⟩ := hrel
          obtain ⟨hct, hcp⟩ := hch.places HF.out.toTr hkt
          have hc0 := (HO.out.pos c).1 hct.1
          have hcl := HO.out.lt c hct.1
          by_cases h0 : c = 0
          · subst h0
            have hval : (s.length : Int) = ask de k := by rw [HD.out.chain hch, HD.out.zero]; omega
            obtain ⟨g2, cap2, w2, hap, hb2, ho2⟩ := HADD.out _ hval
            have HAP := hide hap
            have HF2 := hide (And.intro hb2 ho2)
            clear hap hb2 ho2 hch hcp hct hc0 hval
            generalize s.length = sl at *
            go_wp2_with (at_builtin; refine wpList_append_run rfl _ _ 25 rfl rfl rfl HAP.out ?_)
            go_roundw
            case rel => exact ⟨k + 1, by go_num, by omega, HF2.out.1, HF2.out.2⟩
            case measure => simp [intOf]; omega
          · obtain ⟨y, hy, hyt, hyp⟩ := HF.out.toTr.next hct h0
            have cc := HC.out c hcl
            rw [hy] at cc
            have q1 : ((0 : Int) < (c : Int)) = True := eq_true (by omega)
            have q1' : (0 < c) = True := eq_true (by omega)
            have q2 : ((c : Int) < (g.length : Int)) = True := eq_true (by omega)
            have q3 : ((s.length : Int) ≤ (g.length : Int)) = True := eq_true (by omega)
            have q3' : (s.length ≤ g.length) = True := eq_true (by omega)
            have hcb : c ≤ 4096 := by omega
            have hsl : s.length + 1 ≤ g.length := by omega
            have HCH : Hid (Chain d k (s ++ [c]) y) := .snoc hch hy
            clear hch hcp hct hc0 h0 hyp hyt hy
            have HSL : Hid ((s ++ [c]).length = s.length + 1) := by rw [Hid, List.length_append]; rfl
            generalize hsn : s.length = sl at *
            have HSN := hide hsn
            clear hsn
            go_wp2
            go_roundw
            case rel => exact ⟨y, s ++ [c], rfl, by rw [HSL.out]; go_num, by first | rfl | trivial, HCH.out⟩
            case measure => simp [intOf]; omega
      · have h0 : k ≠ 0 := fun e => hko (by rw [e]; exact HO.out.zero)
        have cc := HC.out k hkl
        rw [HF.out.none hko] at cc
        have hval : (-1 : Int) = ask de k := (HD.out.none k hko).symm
        obtain ⟨g2, cap2, w2, hap, hb2, ho2⟩ := HADD.out _ hval
        have HAP := hide hap
        have HF2 := hide (And.intro hb2 ho2)
        clear hap hb2 ho2 hval hko
        go_wp2
        go_loopw [6, 5] (fun a n W => W = w0 ∧ ((a = .int .i64 (k : Int) ∧ n = .int .i64 0) ∨ (a = .int .i64 (-1) ∧ n = .int .i64 1))) (fun _ n _ => 1 - (intOf n).toNat)
        case atStart => exact ⟨rfl, .inl ⟨rfl, rfl⟩⟩
        case round =>
          obtain ⟨rfl, ⟨rfl, rfl⟩ | ⟨rfl, rfl⟩⟩ := hrel
          · have q1 : ((0 : Int) < (k : Int)) = True := eq_true (by omega)
            have q1' : (0 < k) = True := eq_true (by omega)
            have q3 : ((0 : Int) ≤ (g.length : Int)) = True := eq_true (by omega)
            have hkb : k ≤ 4096 := by omega
            go_wp2
            go_roundw
            case rel => exact ⟨by first | rfl | trivial, .inr ⟨rfl, rfl⟩⟩
            case measure => simp [intOf]
          · go_wp2_with (at_builtin; refine wpList_append_run rfl _ _ 25 rfl rfl rfl HAP.out ?_)
            go_roundw
            case rel => exact ⟨k + 1, by go_num, by omega, HF2.out.1, HF2.out.2⟩
            case measure => simp [intOf]; omega
    · have e1 : ((k : Int) < (g.length : Int)) = False := eq_false (by omega)
      obtain rfl : k = g.length := by omega
      have hel := HD.out.len
      have hO2 : wr.ownsRow hs 3 1 (.slice vav g.length vcap) de.length (intsI de) := by
        have := hO
        rw [← hel, rowTo_all] at this
        rw [← hel]; exact this
      have HO2 := hide hO2
      clear hO hO2
      go_wp2
      go_ret
      exact ⟨hb, _, rfl, HO2.out⟩
end Go.Proofs.Ytonoeodlchkiaaa
