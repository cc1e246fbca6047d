/-
  Kids (layer 7): the contract of dom's own, of any row.
-/
import Derived.Test.YtonoeodlchkiaaaDmt
namespace Go.Proofs.Ytonoeodlchkiaaa
open Go.ChangeShapes Go.WideShapes Go.ChangeAt Go.RowKit Go.Shelf

/-- Of the first k those whose idom a block is. -/
def kidsTo (d : List Int) (k i : Nat) : List Nat := (List.range k).filter fun x => decide (ask d x = (i : Int))
theorem kidsTo_succ (d : List Int) (k i : Nat) : kidsTo d (k + 1) i = kidsTo d k i ++ (if ask d k = (i : Int) then [k] else []) := by
  unfold kidsTo
  rw [List.range_succ, List.filter_append]
  congr 1
  by_cases h : ask d k = (i : Int)
  · rw [if_pos h, List.filter_cons_of_pos (by simpa using h)]; rfl
  · rw [if_neg h, List.filter_cons_of_neg (by simpa using h)]; rfl
theorem kidsTo_len (d : List Int) (k i : Nat) : (kidsTo d k i).length ≤ k := by
  unfold kidsTo
  have := List.length_filter_le (fun x => decide (ask d x = (i : Int))) (List.range k)
  rwa [List.length_range] at this

set_option maxRecDepth 100000 in
set_option maxHeartbeats 4000000 in
theorem kids_is (B n : Nat) (hn : n ≤ 4096) (d : List Int) (hl : d.length = n) (w : World) (hB : w.heap[B]? = some (.cells (intsI d).toArray 3 (0, 0))) :
    Calls Try.prog 14 #[.slice (some ⟨B, 0, none⟩) n n] w fun e w' => Below w.heap.size w w' ∧ ∃ H base, w.heap.size ≤ H ∧ H < base ∧ e = .returned (.slice (some ⟨H, 0, none⟩) n n) ∧ RowsB w' base H n (kidsTo d n) := by
  have hBl := lt_of hB
  have HB := hide hB
  clear hB
  have mk : (Instr.makeSlice 22 (.int .i64 (n : Int)) (.int .i64 (n : Int))).run Try.prog w = .ok (.slice (some ⟨w.heap.size, 0, none⟩) n n) (w.alloc (.cells (Array.replicate n (.slice none 0 0)) 25)) := by rw [make_rows n (by omega) w, List.toArray_replicate]
  have hb2 : Below w.heap.size w (w.alloc (.cells (Array.replicate n (.slice none 0 0)) 25)) := (Below.refl _ w).alloc (Nat.le_refl _) _
  have k2 : ∀ base, RowsB (w.alloc (.cells (Array.replicate n (.slice none 0 0)) 25)) base w.heap.size n (fun _ => []) := fun base => by
    rw [← List.toArray_replicate]; exact rowsB_new w n _
  have hs2 : (w.alloc (.cells (Array.replicate n (.slice none 0 0)) 25)).heap.size = w.heap.size + 1 := by simp
  have HK := hide (And.intro hb2 (And.intro k2 hs2))
  clear hb2 k2 hs2
  go_enter Try.func14, Try.ntmps14
  go_wp2
  clear mk
  obtain ⟨hb2, k2, hs2⟩ := HK.out
  clear HK
  generalize w.alloc (.cells (Array.replicate n (.slice none 0 0)) 25) = w3 at *
  generalize hh : w.heap.size = h at *
  go_loopw [11] (fun i W => ∃ k : Nat, i = .int .i64 k ∧ k ≤ n ∧ Turns (fun b => h + 1 ≤ b ∨ b = h) w3 W ∧ RowsB W (h + 1) h n (kidsTo d k)) (fun i _ => n - (intOf i).toNat)
  case atStart => exact ⟨0, rfl, Nat.zero_le _, Turns.refl _ _, (k2 _).congr (fun t _ => by simp [kidsTo])⟩
  case round =>
    obtain ⟨k, rfl, hk, hT, hR⟩ := hrel
    have hsz := hT.size
    have hBr : Below h w wr := Turns.below hb2 (by omega) hT (fun b hb hq => by omega)
    by_cases hkl : k < n
    · have e1 : ((k : Int) < (n : Int)) = True := eq_true (by omega)
      have hkb : k ≤ 4096 := by omega
      have ck := ints_at ((hBr.block B (by omega)).trans HB.out) k (by omega)
      have HSC : Hid (∀ i, kidsTo d (k + 1) i = kidsTo d k i ++ (if ask d k = (i : Int) then [k] else [])) := kidsTo_succ d k
      have HIB := isBlock_is B n n (ask d k) wr
      by_cases hin : 0 ≤ ask d k ∧ ask d k < (n : Int)
      · rw [decide_eq_true hin] at HIB
        obtain ⟨t, ht⟩ := Int.eq_ofNat_of_zero_le hin.1
        have htn : t < n := by omega
        have hal := kidsTo_len d k t
        obtain ⟨v, g', cp, w', d1, hap, hkb', hsz', hR', hT'⟩ := rowsB_step hR 25 t k htn (by omega) (by omega) (by omega)
        have hRf : RowsB (w'.setCell ⟨h, t, none⟩ (.slice (some ⟨g', 0, none⟩) ((kidsTo d k t).length + 1) cp)) (h + 1) h n (kidsTo d (k + 1)) := hR'.congr (fun x _ => by
          rw [HSC.out, ht]
          by_cases e : x = t
          · rw [if_pos e, if_pos (by rw [e])]
          · rw [if_neg e, if_neg (by omega), List.append_nil])
        have HRF := hide hRf
        have HTF := hide (hT.trans hT')
        have HAP := hide hap
        have f3 : w'.frozen? ⟨h, t, none⟩ = false := by
          obtain ⟨vs, _, h2, _⟩ := hR
          exact (World.frozen?_of_block (hkb' h (by omega) (.inl (by omega)))).trans (frozen_of h2 _)
        have d3 : w'.cell? ⟨h, t, none⟩ = some v := (World.cell?_of_block (hkb' h (by omega) (.inl (by omega)))).trans d1
        have dB : (wr.alloc (.cells #[.int .i64 (k : Int)] 3)).cell? ⟨h, t, none⟩ = some v := (World.cell?_of_block (Below.heap_alloc _ _ _ (by show h < _; omega))).trans d1
        rw [ht] at ck HIB
        clear hap hRf hR' hT' hkb' hR hT hin hal hBr ht
        generalize (kidsTo d k t).length = kl at *
        have hti : ((t : Int) < (n : Int)) = True := eq_true (by omega)
        have htb : t ≤ 4096 := by omega
        go_wp2_with fail
        refine HIB.mono ?_
        clear HIB
        rintro e w9 ⟨rfl, rfl⟩
        go_wp2_with (at_builtin; refine wpList_append_run rfl _ _ 25 rfl rfl rfl HAP.out ?_)
        go_roundw
        case rel => exact ⟨k + 1, by go_num, by omega, HTF.out, HRF.out⟩
        case measure => simp [intOf]; omega
      · rw [decide_eq_false hin] at HIB
        have hRf : RowsB wr (h + 1) h n (kidsTo d (k + 1)) := hR.congr (fun x hx => by
          rw [HSC.out, if_neg (fun e => hin (by omega)), List.append_nil])
        have HRF := hide hRf
        clear hR hRf hin
        generalize ask d k = v at *
        go_wp2_with fail
        refine HIB.mono ?_
        clear HIB
        rintro e w9 ⟨rfl, rfl⟩
        go_wp2
        go_roundw
        case rel => exact ⟨k + 1, by go_num, by omega, hT, HRF.out⟩
        case measure => simp [intOf]; omega
    · have e1 : ((k : Int) < (n : Int)) = False := eq_false (by omega)
      obtain rfl : k = n := by omega
      have HR := hide hR
      clear hR
      go_wp2
      go_ret
      exact ⟨by rw [hh]; exact hBr, h, h + 1, by omega, Nat.lt_succ_self h, rfl, HR.out⟩

end Go.Proofs.Ytonoeodlchkiaaa
