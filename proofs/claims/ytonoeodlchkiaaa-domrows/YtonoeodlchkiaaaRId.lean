/-
  The document's own Idom (layer 7): its contract.
-/
import Derived.Test.YtonoeodlchkiaaaOvr
import Derived.Test.YtonoeodlchkiaaaRDp
namespace Go.Proofs.Ytonoeodlchkiaaa
open Go.ChangeShapes Go.WideShapes Go.ChangeAt Go.RowKit Go.Shelf

theorem Anc.lin {d : List Int} {b x : Nat} (h : Anc d b x) : ∀ {y : Nat}, Anc d b y → Anc d x y ∨ Anc d y x := by
  induction h with
  | refl b => exact fun k => .inl k
  | @up b z x e k ih =>
    intro y hy
    cases hy with
    | refl => exact .inr (.up e k)
    | @up _ z' _ e' k' =>
      have : z' = z := by rw [e] at e'; omega
      subst this
      exact ih k'
/-- Another block that dominates. -/
def SD (o : List Nat) (d : List Int) (b a : Nat) : Prop := a ≠ b ∧ a ∈ o ∧ Anc d b a
/-- The nearest one so far. -/
def Best (o : List Nat) (d : List Int) (b k : Nat) (v : Int) : Prop := (v = -1 ∧ ∀ a, a < k → ¬ SD o d b a) ∨ ∃ x : Nat, v = (x : Int) ∧ SD o d b x ∧ ∀ a, a < k → SD o d b a → Anc d x a
theorem Best.skip {o : List Nat} {d : List Int} {b k : Nat} {v : Int} (h : Best o d b k v) (hn : ¬ SD o d b k) : Best o d b (k + 1) v := by
  rcases h with ⟨h1, h2⟩ | ⟨x, h1, h2, h3⟩
  · exact .inl ⟨h1, fun a ha => by rcases Nat.lt_or_ge a k with h | h; exact h2 a h; rw [show a = k by omega]; exact hn⟩
  · exact .inr ⟨x, h1, h2, fun a ha hs => by
      rcases Nat.lt_or_ge a k with h | h
      · exact h3 a h hs
      · have : a = k := by omega
        subst this; exact absurd hs hn⟩
theorem Best.first {o : List Nat} {d : List Int} {b k : Nat} (h : Best o d b k (-1)) (hs : SD o d b k) : Best o d b (k + 1) (k : Int) := by
  rcases h with ⟨_, h2⟩ | ⟨x, h1, _⟩
  · exact .inr ⟨k, rfl, hs, fun a ha hs' => by
      rcases Nat.lt_or_ge a k with h | h
      · exact absurd hs' (h2 a h)
      · have : a = k := by omega
        subst this; exact .refl a⟩
  · omega
theorem Best.nearer {o : List Nat} {d : List Int} {b k x : Nat} (h : Best o d b k (x : Int)) (hs : SD o d b k) (hx : Anc d k x) : Best o d b (k + 1) (k : Int) := by
  rcases h with ⟨h1, _⟩ | ⟨x', h1, h2, h3⟩
  · omega
  · have : x' = x := by omega
    subst this
    exact .inr ⟨k, rfl, hs, fun a ha hs' => by
      rcases Nat.lt_or_ge a k with h | h
      · exact hx.trans (h3 a h hs')
      · have : a = k := by omega
        subst this; exact .refl a⟩
theorem Best.keep {o : List Nat} {d : List Int} {b k x : Nat} (h : Best o d b k (x : Int)) (hs : SD o d b k) (hx : ¬ Anc d k x) : Best o d b (k + 1) (x : Int) := by
  rcases h with ⟨h1, _⟩ | ⟨x', h1, h2, h3⟩
  · omega
  · have : x' = x := by omega
    subst this
    exact .inr ⟨x', rfl, h2, fun a ha hs' => by
      rcases Nat.lt_or_ge a k with h | h
      · exact h3 a h hs'
      · have : a = k := by omega
        subst this
        exact (h2.2.2.lin hs.2.2).resolve_right hx⟩
theorem Best.done {g : List (List Nat)} {o : List Nat} {d : List Int} (ho : Ord g o) (hf : Fin g o d) {b : Nat} {v : Int} (hb : b ∈ o) (hb0 : b ≠ 0) (h : Best o d b g.length v) : v = ask d b := by
  obtain ⟨y, hy, hyt, hyp⟩ := hf.toTr.next (hf.told hb) hb0
  have hsy : SD o d b y := ⟨fun e => by subst e; omega, hyt.1, .up hy (.refl y)⟩
  rcases h with ⟨_, h2⟩ | ⟨x, h1, h2, h3⟩
  · exact absurd hsy (h2 y (ho.lt y hyt.1))
  · have k1 := h3 y (ho.lt y hyt.1) hsy
    have key : ∀ a, Anc d b a → a ≠ b → Anc d y a := fun a ha hne => by
      cases ha with
      | refl => exact absurd rfl hne
      | @up _ z _ e k =>
        have : z = y := by omega
        subst this
        exact k
    have k2 := key x h2.2.2 h2.1
    have p1 := (hf.toTr.anc k1 (hf.told h2.2.1)).2
    have p2 := (hf.toTr.anc k2 hyt).2
    have := ho.inj x h2.2.1 y hyt.1 (by omega)
    rw [h1, hy, this]

set_option maxRecDepth 100000 in
set_option maxHeartbeats 8000000 in
theorem ridom_is (av : Option Addr) (cap blk off : Nat) (hd : Nat → Hdr) (g : List (List Nat)) (hgr : Right g) (hl : g.length ≤ 24) (hl2 : ∀ b, (g.getD b []).length ≤ 20) (m' : List Bool) (o : List Nat) (hw : Walk g [0] (List.replicate g.length false) m' o) (d : List Int) (hf : Fin g o d) (w : World) (hG : GAt w av blk off hd (castG g)) :
    Calls Try.prog 12 #[.slice av g.length cap] w fun e w' => Below w.heap.size w w' ∧ ∃ v, e = .returned v ∧ w'.ownsRow w.heap.size 3 1 v d.length (intsI d) := by
  have hone := hgr.one
  have ho := ord_of hone hw
  have hlen := hf.len
  have hr := rright_is av cap blk off hd (castG g) (by rw [castG_len]; omega) (fun b => by rw [castG_at, List.length_map]; exact hl2 b) w hG
  rw [castG_len, rightB_true.2 hgr.toI] at hr
  have HRE := hide (rreach_is av cap blk off hd g hgr (by omega) 0 (by omega) m' o hw w hG)
  have HOV : Hid (∀ W, Below w.heap.size w W → ∀ a b, a < g.length → b < g.length → Calls Try.prog 33 #[.slice av g.length cap, .int .i64 (a : Int), .int .i64 (b : Int)] W fun e w' => Below W.heap.size W w' ∧ e = .returned (.bool (domD g a b))) := fun W hb a b ha hb' => over_is av cap blk off hd g hgr hl hl2 a b ha hb' W (hG.below hb)
  have HF := hide hf
  have HO := hide ho
  clear hG hf ho hw
  generalize hhs : w.heap.size = hs at *
  go_enter Try.func12, Try.ntmps12
  go_wp2_with fail
  refine hr.mono ?_
  rintro e w1 ⟨rfl, rfl⟩
  clear hr
  go_wp2_with fail
  refine HRE.out.mono ?_
  clear HRE
  rintro e w2 ⟨hb2, R, hR, rfl, hRf⟩
  have hRl := lt_of hRf
  have hs2 := hb2.size
  rw [hhs] at hs2
  have HFL : Hid (∀ W, Below w2.heap.size w2 W → ∀ x, x < g.length → W.cell? ⟨R, x, none⟩ = some (.bool (decide (x ∈ o)))) := fun W hb x hx => by
    rw [hb.cell (p := ⟨R, x, none⟩) hRl, cell_of hRf, List.getElem?_toArray, List.getElem?_map, flg_at _ _ _ hx]; rfl
  have HOV2 : Hid (∀ W, Below w2.heap.size w2 W → ∀ a b, a < g.length → b < g.length → Calls Try.prog 33 #[.slice av g.length cap, .int .i64 (a : Int), .int .i64 (b : Int)] W fun e w' => Below W.heap.size W w' ∧ e = .returned (.bool (domD g a b))) := fun W hb => HOV.out W (hb2.trans (hb.mono hs2))
  clear hRf HOV
  go_wp2
  generalize hh2 : w2.heap.size = h2 at *
  go_loopw [6, 5] (fun i v W => ∃ k : Nat, i = .int .i64 k ∧ k ≤ g.length ∧ Below h2 w2 W ∧ W.ownsRow h2 3 1 v (rowTo d k).length (intsI (rowTo d k))) (fun i _ _ => g.length - (intOf i).toNat)
  case atStart => exact ⟨0, rfl, Nat.zero_le _, by rw [← hh2]; exact Below.refl _ _, World.ownsRow_nil _ _ _ _⟩
  case round =>
    obtain ⟨k, rfl, hk, hb, hO⟩ := hrel
    have hsb := hb.size
    rw [hh2] at hsb
    obtain ⟨vav, vcap, hve, -⟩ := owns_shape hO
    rw [rowTo_len] at hve
    subst hve
    by_cases hkl : k < g.length
    · have e1 : ((k : Int) < (g.length : Int)) = True := eq_true (by omega)
      have hkb : k ≤ 24 := by omega
      have HADD : Hid (∀ W, Below h2 w2 W → W.ownsRow h2 3 1 (.slice vav k vcap) (rowTo d k).length (intsI (rowTo d k)) → ∀ x : Int, x = ask d k → ∃ g3 cap w3, (Builtin.append_ #[25, 25] 25 #[.slice vav k vcap, .slice (some ⟨W.heap.size, 0, none⟩) 1 1]).run Try.prog (W.alloc (.cells #[.int .i64 x] 3)) = .ok (.slice (some ⟨g3, 0, none⟩) (k + 1) cap) w3 ∧ Below h2 w2 w3 ∧ w3.ownsRow h2 3 1 (.slice (some ⟨g3, 0, none⟩) (k + 1) cap) (rowTo d (k + 1)).length (intsI (rowTo d (k + 1)))) := fun W hbW hOW x hx => by
        have hsW := hbW.size
        rw [hh2] at hsW
        obtain ⟨g3, cap, w3, hap, ho3, hT3⟩ := int_moreI hOW x 25 (by rw [rowTo_len]; omega) hsW
        rw [rowTo_len] at hap ho3
        rw [hx, ← rowTo_succ] at ho3
        exact ⟨g3, cap, w3, by rw [hx] at hap ⊢; exact hap, hT3.below hbW hsW (fun b hb hq => by omega), ho3⟩
      by_cases hin : k ∈ o ∧ k ≠ 0
      · have HW0 := hide hO
        have q0 : ((k : Int) != 0) = true := by simp; omega
        have q0' : ((k : Int) = 0) = False := eq_false (by omega)
        clear hO
        go_wp2
        go_loopw [8, 7] (fun i v W => ∃ (j : Nat) (z : Int), i = .int .i64 j ∧ j ≤ g.length ∧ v = .int .i64 z ∧ Below h2 w2 W ∧ W.ownsRow h2 3 1 (.slice vav k vcap) (rowTo d k).length (intsI (rowTo d k)) ∧ Best o d k j z) (fun i _ _ => g.length - (intOf i).toNat)
        case atStart => exact ⟨0, -1, rfl, Nat.zero_le _, rfl, hb, HW0.out, .inl ⟨rfl, fun a ha => absurd ha (Nat.not_lt_zero _)⟩⟩
        case round =>
          clear HW0 hb hsb
          obtain ⟨j, z, rfl, hj, rfl, hb, hO, hB⟩ := hrel
          have hbb : Below w2.heap.size w2 wr := by rw [hh2]; exact hb
          have ck := HFL.out wr (by rw [← hh2]; exact hbb) k hkl
          rw [decide_eq_true hin.1] at ck
          by_cases hjl : j < g.length
          · have e2 : ((j : Int) < (g.length : Int)) = True := eq_true (by omega)
            have hjb : j ≤ 24 := by omega
            have cj := HFL.out wr (by rw [← hh2]; exact hbb) j hjl
            by_cases hjk : j = k
            · have q1 : ((j : Int) == (k : Int)) = true := by simp; omega
              have q1' : ((j : Int) = (k : Int)) = True := eq_true (by omega)
              have HBN := hide (hB.skip (fun h => h.1 hjk))
              have HOO := hide hO
              clear hB hO hjk cj hbb
              go_wp2
              go_roundw
              case rel => exact ⟨j + 1, z, by go_num, by omega, rfl, hb, HOO.out, HBN.out⟩
              case measure => simp [intOf]; omega
            have q1 : ((j : Int) == (k : Int)) = false := by simp; omega
            have q1' : ((j : Int) = (k : Int)) = False := eq_false (by omega)
            by_cases hjo : j ∈ o
            case neg =>
              rw [decide_eq_false hjo] at cj
              have HBN := hide (hB.skip (fun h => hjo h.2.1))
              have HOO := hide hO
              clear hB hO hjk hjo hbb
              go_wp2
              go_roundw
              case rel => exact ⟨j + 1, z, by go_num, by omega, rfl, hb, HOO.out, HBN.out⟩
              case measure => simp [intOf]; omega
            rw [decide_eq_true hjo] at cj
            have HO1 := hide (HOV2.out wr (by rw [← hh2]; exact hbb) j k hjl hkl)
            have HOO := hide hO
            have HBB := hide hbb
            have HB := hide hB
            clear hB hO hbb
            by_cases hdj : Dom g j k
            case neg =>
              rw [domD_false hdj] at HO1
              have HBN := hide (HB.out.skip (fun h => hdj ((HF.out.dominates HO.out hin.1).1 h.2.2)))
              clear hjk hjo hdj HB
              go_wp2_with fail
              refine HO1.out.mono ?_
              clear HO1
              rintro e w4 ⟨hb4, rfl⟩
              have hb5 := hb.trans (hb4.mono (by have := hb.size; omega))
              have HO5 := hide (owns_turns HOO.out (Turns.of_below hb4) (fun b hb' hq => by have := (HOO.out.lt b hb').2; omega))
              clear hb4 HOO ck cj
              go_wp2
              go_roundw
              case rel => exact ⟨j + 1, z, by go_num, by omega, rfl, hb5, HO5.out, HBN.out⟩
              case measure => simp [intOf]; omega
            rw [domD_true hdj] at HO1
            have HSD : Hid (SD o d k j) := ⟨hjk, hjo, (HF.out.dominates HO.out hin.1).2 hdj⟩
            have hjo' := hjo
            clear hjk hdj
            go_wp2_with fail
            refine HO1.out.mono ?_
            clear HO1
            rintro e w4 ⟨hb4, rfl⟩
            have hb5 := hb.trans (hb4.mono (by have := hb.size; omega))
            have hbb5 := bel_two HBB.out hb4
            have HO5 := hide (owns_turns HOO.out (Turns.of_below hb4) (fun b hb' hq => by have := (HOO.out.lt b hb').2; omega))
            clear hb4 HOO ck cj HBB hb
            rcases (show z = -1 ∨ ∃ x : Nat, z = (x : Int) ∧ x < g.length ∧ x ∈ o from by
              rcases HB.out with ⟨h, _⟩ | ⟨x, h, h', _⟩
              · exact .inl h
              · exact .inr ⟨x, h, HO.out.lt x h'.2.1, h'.2.1⟩) with rfl | ⟨x, rfl, hxl, hxo⟩
            · have HBN := hide (HB.out.first HSD.out)
              clear HB HSD hjo'
              go_wp2
              go_roundw
              case rel => exact ⟨j + 1, j, by go_num, by omega, rfl, hb5, HO5.out, HBN.out⟩
              case measure => simp [intOf]; omega
            · have q3 : ((x : Int) < 0) = False := eq_false (by omega)
              have HO2 := hide (HOV2.out w4 (by rw [← hh2]; exact hbb5) x j hxl hjl)
              by_cases hdx : Dom g x j
              · rw [domD_true hdx] at HO2
                have HBN := hide (HB.out.nearer HSD.out ((HF.out.dominates HO.out hjo').2 hdx))
                clear HB HSD hjo' hdx hxo
                go_wp2_with fail
                refine HO2.out.mono ?_
                clear HO2
                rintro e w6 ⟨hb6, rfl⟩
                have hb7 := hb5.trans (hb6.mono (by have := hb5.size; omega))
                have HO7 := hide (owns_turns HO5.out (Turns.of_below hb6) (fun b hb' hq => by have := (HO5.out.lt b hb').2; omega))
                clear hb6 HO5
                go_wp2
                go_roundw
                case rel => exact ⟨j + 1, j, by go_num, by omega, rfl, hb7, HO7.out, HBN.out⟩
                case measure => simp [intOf]; omega
              · rw [domD_false hdx] at HO2
                have HBN := hide (HB.out.keep HSD.out (fun h => hdx ((HF.out.dominates HO.out hjo').1 h)))
                clear HB HSD hjo' hdx hxo
                go_wp2_with fail
                refine HO2.out.mono ?_
                clear HO2
                rintro e w6 ⟨hb6, rfl⟩
                have hb7 := hb5.trans (hb6.mono (by have := hb5.size; omega))
                have HO7 := hide (owns_turns HO5.out (Turns.of_below hb6) (fun b hb' hq => by have := (HO5.out.lt b hb').2; omega))
                clear hb6 HO5
                go_wp2
                go_roundw
                case rel => exact ⟨j + 1, x, by go_num, by omega, rfl, hb7, HO7.out, HBN.out⟩
                case measure => simp [intOf]; omega
          · have e2 : ((j : Int) < (g.length : Int)) = False := eq_false (by omega)
            obtain rfl : j = g.length := by omega
            obtain ⟨g3, cap3, w3, hap, hb3, ho3⟩ := HADD.out wr hb hO z (hB.done HO.out HF.out hin.1 hin.2)
            have HAP := hide hap
            have HF2 := hide (And.intro hb3 ho3)
            clear hap hb3 ho3 hO hB hbb ck
            go_wp2_with (at_builtin; refine wpList_append_run rfl _ _ 25 rfl rfl rfl HAP.out ?_)
            go_roundw
            case rel => exact ⟨k + 1, by go_num, by omega, HF2.out.1, HF2.out.2⟩
            case measure => simp [intOf]; omega
      · have hval : (-1 : Int) = ask d k := by
          by_cases h0 : k = 0
          · rw [h0, HF.out.zero]
          · exact (HF.out.none (fun h => hin ⟨h, h0⟩)).symm
        obtain ⟨g3, cap3, w3, hap, hb3, ho3⟩ := HADD.out wr hb hO _ hval
        have HAP := hide hap
        have HF2 := hide (And.intro hb3 ho3)
        have ck := HFL.out wr hb k hkl
        clear hap hb3 ho3 hO hval HADD
        by_cases h0 : k = 0
        · subst h0
          clear ck hin
          go_wp2
          go_loopw [8, 7] (fun i v W => i = .int .i64 0 ∧ v = .int .i64 (-1) ∧ W = wr) (fun _ _ _ => 0)
          case atStart => exact ⟨rfl, rfl, rfl⟩
          case round =>
            obtain ⟨rfl, rfl, rfl⟩ := hrel
            go_wp2_with (at_builtin; refine wpList_append_run rfl _ _ 25 rfl rfl rfl HAP.out ?_)
            go_roundw
            case rel => exact ⟨0 + 1, by go_num, by omega, HF2.out.1, HF2.out.2⟩
            case measure => simp [intOf]; omega
        · have q0 : ((k : Int) != 0) = true := by simp; omega
          have q0' : ((k : Int) = 0) = False := eq_false (by omega)
          rw [decide_eq_false (fun h => hin ⟨h, h0⟩)] at ck
          clear hin h0
          have q9 : ((0 : Int) < (g.length : Int)) = True := eq_true (by omega)
          generalize hW0 : wr = w0 at *
          clear hW0
          go_wp2
          go_loopw [8, 7] (fun i v W => i = .int .i64 0 ∧ v = .int .i64 (-1) ∧ W = w0) (fun _ _ _ => 0)
          case atStart => exact ⟨rfl, rfl, rfl⟩
          case round =>
            obtain ⟨rfl, rfl, rfl⟩ := hrel
            go_wp2_with (at_builtin; refine wpList_append_run rfl _ _ 25 rfl rfl rfl HAP.out ?_)
            go_roundw
            case rel => exact ⟨k + 1, by go_num, by omega, HF2.out.1, HF2.out.2⟩
            case measure => simp [intOf]; omega
    · have e1 : ((k : Int) < (g.length : Int)) = False := eq_false (by omega)
      obtain rfl : k = g.length := by omega
      have hO2 : wr.ownsRow hs 3 1 (.slice vav g.length vcap) d.length (intsI d) := by
        have := hO
        rw [← hlen, rowTo_all] at this
        rw [← hlen]; exact owns_mono this hs2
      have HO2 := hide hO2
      clear hO hO2
      go_wp2
      go_ret
      exact ⟨hb2.trans (hb.mono hs2), _, rfl, HO2.out⟩
end Go.Proofs.Ytonoeodlchkiaaa
