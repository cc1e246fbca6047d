/-
  The document's own Assemble (layer 5).
-/
import Derived.Test.YtbfmadcppnfgpaaDoorMkQ
namespace Go.Proofs.YtbfmadcppnfgpaaDoor
open Go.ChangeShapes Go.WideShapes Go.ChangeAt Go.RowKit

theorem tab_nat (ls : List Ln) : ∀ k, ∀ p ∈ tab ls k, 0 ≤ p.2
  | 0, p, h => by simp [tab] at h
  | k + 1, p, h => by
    by_cases hk : k < ls.length
    · by_cases hz : (ls[k]'hk).L = 0
      · rw [tab_inst ls k hk hz] at h; exact tab_nat ls k p h
      · rw [tab_label ls k hk hz] at h
        rcases List.mem_append.1 h with h | h
        · exact tab_nat ls k p h
        · simp at h; subst h; simp
    · rw [show tab ls (k + 1) = tab ls k by simp [tab, List.getElem?_eq_none (by omega : ls.length ≤ k)]] at h
      exact tab_nat ls k p h
theorem placeR_there {ls : List Ln} {t : Int} (h : t ∈ labs ls) : 0 ≤ placeR ls t := by
  unfold placeR
  rw [if_pos h]
  unfold placeOf
  cases hf : (tab ls ls.length).find? (fun p => p.1 == t) with
  | none => simp
  | some p => simpa using tab_nat ls _ p (List.mem_of_find?_eq_some hf)
/-- What the document's Assemble answers. -/
def RAs (ls : List Ln) (w : World) (e : Ending) (w' : World) : Prop :=
  Below w.heap.size w w' ∧ ((∃ n, Told ls n ∧ e = .returned (.tuple #[.slice none 0 0, .int .i64 n])) ∨ (Good ls ∧ ∃ av cap, e = .returned (.tuple #[.slice av (asmL ls).length cap, .int .i64 0]) ∧ w'.ownsRow w.heap.size 32 5 (.slice av (asmL ls).length cap) (asmL ls).length ((asmL ls).flatMap Ins.cells)))
theorem owns_mono {w : World} {base base' : Nat} {e : TypeId} {size : Nat} {v : Value} {n : Nat} {xs : List Value} (h : w.ownsRow base e size v n xs) (hb : base' ≤ base) : w.ownsRow base' e size v n xs :=
  ⟨h.1, h.2.elim .inl (fun ⟨g, cap, cur, b1, b2, b3⟩ => .inr ⟨g, cap, cur, b1, by omega, b3⟩)⟩
/-- One instruction more. -/
theorem app_ins (W : World) (base : Nat) (o : Value) (l : List Ins) (x : Ins) (ho : W.ownsRow base 32 5 o l.length (l.flatMap Ins.cells)) (hl : l.length ≤ 1000000) (hb : base ≤ W.heap.size) :
    ∃ av c W', (Builtin.append_ #[24, 24] 24 #[o, .slice (some ⟨W.heap.size, 0, none⟩) 1 1]).run Tryd.prog (W.alloc (.cells #[.int .i64 x.o, .int .i64 x.a, .int .i64 x.b, .int .i64 x.c, .int .i64 x.i] 32)) = .ok (.slice av (l ++ [x]).length c) W' ∧ W'.ownsRow base 32 5 (.slice av (l ++ [x]).length c) (l ++ [x]).length ((l ++ [x]).flatMap Ins.cells) ∧ Below base W W' := by
  have hbn : Below W.heap.size W (W.alloc (.cells ([x].flatMap Ins.cells).toArray 32)) := (Below.refl _ _).alloc (Nat.le_refl _) _
  have ho2 := owns_below ho hbn
  obtain ⟨v', W', ha, h1, h2⟩ := append_row _ 24 base o l.length _ ho2 (some ⟨W.heap.size, 0, none⟩) 1 W.heap.size 0 [x] (new_ins W [x]) (by simp; omega) (by simp; omega)
  obtain ⟨av, c, rfl, _⟩ := owns_shape h1
  rw [List.length_append, List.flatMap_append]
  exact ⟨av, c, W', ha, h1, (hbn.mono hb).trans (grown_base ho2 h2 (by simp; omega))⟩

set_option maxRecDepth 100000 in
set_option maxHeartbeats 4000000 in
theorem refassemble_is (av : Option Addr) (cap blk off : Nat) (ls : List Ln) (w : World) (hl : ls.length ≤ 100000) (hin : IsLines w av blk off ls) (hpl : Calls Tryd.prog 11 #[.slice av ls.length cap] w (RPl ls w)) :
    Calls Tryd.prog 9 #[.slice av ls.length cap] w (RAs ls w) := by
  have HIN : Hid (IsLines w av blk off ls) := hin
  have HPL : Hid (Calls Tryd.prog 11 #[.slice av ls.length cap] w (RPl ls w)) := hpl
  clear hin hpl
  generalize hn : ls.length = n at *
  have HN : Hid (ls.length = n) := hn
  clear hn
  go_enter Tryd.func9, Tryd.ntmps9
  go_wp2_with fail
  refine HPL.out.mono ?_
  clear HPL
  rintro e w1 ⟨hb1, ⟨k, hk, rfl⟩ | ⟨hr, hnd, pav, pc, rfl, -⟩⟩
  · have hk0 : (k != 0) = true := by cases hk <;> rfl
    have HT : Hid (Told ls k) := hk.told
    clear hk
    go_wp2_with fail
    go_ret2
    exact ⟨hb1, .inl ⟨k, HT.out, rfl⟩⟩
  have HR : Hid (∀ x ∈ ls, x.right = true) := hr
  have HND : Hid (labs ls).Nodup := hnd
  have HB1 : Hid (Below w.heap.size w w1) := hb1
  clear hr hnd hb1
  generalize (placesL ls).length = pn at *
  go_wp2_with fail
  go_loopw [6, 7] (fun o i W => ∃ k : Nat, i = .int .i64 k ∧ k ≤ n ∧ W.ownsRow w.heap.size 32 5 o (codeR ls k).length ((codeR ls k).flatMap Ins.cells) ∧ (∀ j (hj : j < ls.length), j < k → (ls[j]'hj).L = 0 → (ls[j]'hj).t = 0 ∨ (ls[j]'hj).t ∈ labs ls) ∧ Below w.heap.size w W) (fun _ i _ => n - (intOf i).toNat)
  case atStart => exact ⟨0, rfl, Nat.zero_le _, by rw [codeR_zero]; exact World.ownsRow_nil _ _ _ _, fun j _ h => absurd h (Nat.not_lt_zero j), HB1.out⟩
  case round =>
    obtain ⟨k, rfl, hk, hO, hld, hbr⟩ := hrel
    obtain ⟨ov, oc, rfl, hoc1, -⟩ := owns_shape hO
    have hcl := codeR_len ls k
    have hcl2 : (codeR ls k).length ≤ 100000 := by have := HN.out; omega
    by_cases hlt : k < n
    · have e1 : ((k : Int) < (n : Int)) = True := eq_true (by omega)
      have hkl : k < ls.length := by rw [HN.out]; exact hlt
      have hinr := HIN.out.later hbr
      have HIR : Hid (IsLines wr av blk off ls) := hinr
      obtain rfl := HIN.out.at_ (by omega)
      have hblk : blk < wr.heap.size := Nat.lt_of_lt_of_le (HIN.out.lt (by omega)) hbr.size
      obtain ⟨c0, c1, c2, c3, c4, c5, c6⟩ := hinr.has k hkl
      have HLT : Hid (k < n) := hlt
      have HBr : Hid (Below w.heap.size w wr) := hbr
      have hkb : k ≤ 100000 := by omega
      by_cases hz : (ls[k]'hkl).L = 0
      · have e2 : ((ls[k]'hkl).L != 0) = false := by simp [hz]
        have HCI : Hid (codeR ls (k + 1) = codeR ls k ++ [⟨(ls[k]'hkl).o, (ls[k]'hkl).a, (ls[k]'hkl).b, (ls[k]'hkl).c, if (ls[k]'hkl).t = 0 then (ls[k]'hkl).i else placeR ls (ls[k]'hkl).t⟩]) := codeR_inst ls k hkl hz
        have HLD : Hid ((ls[k]'hkl).t = 0 ∨ (ls[k]'hkl).t ∈ labs ls → ∀ j (hj : j < ls.length), j < k + 1 → (ls[j]'hj).L = 0 → (ls[j]'hj).t = 0 ∨ (ls[j]'hj).t ∈ labs ls) := fun h j hj hjk hz2 => by
          by_cases e : j = k
          · subst e; exact h
          · exact hld j hj (by omega) hz2
        have HNO : Hid (¬ ((ls[k]'hkl).t = 0 ∨ (ls[k]'hkl).t ∈ labs ls) → Told ls 3) := fun h => .none HR.out HND.out (fun hl => h (hl _ (List.getElem_mem hkl)))
        generalize ls[k]'hkl = x at *
        obtain ⟨xL, xo, xa, xb, xc, xi, xt⟩ := x
        simp only at c0 c1 c2 c3 c4 c5 c6 hz e2
        have HO : Hid (wr.ownsRow w.heap.size 32 5 (.slice ov (codeR ls k).length oc) (codeR ls k).length ((codeR ls k).flatMap Ins.cells)) := hO
        have hbs := hbr.size
        have hbA := (Below.refl wr.heap.size wr).alloc (Nat.le_refl _) (.cells #[.int .i64 xo, .int .i64 xa, .int .i64 xb, .int .i64 xc, .int .i64 xi] 32)
        by_cases ht : xt = 0
        · have e3 : (xt != 0) = false := by simp [ht]
          obtain ⟨av2, c2', W2, ha, ho2, hb2⟩ := app_ins (wr.alloc (.cells #[.int .i64 xo, .int .i64 xa, .int .i64 xb, .int .i64 xc, .int .i64 xi] 32)) w.heap.size _ _ ⟨xo, xa, xb, xc, xi⟩ (owns_below hO hbA) (by omega) (by simp; omega)
          rw [World.size_alloc] at ha
          have hci := HCI.out
          rw [if_pos ht] at hci
          rw [← hci] at ha ho2
          have HA : Hid ((Builtin.append_ #[24, 24] 24 #[.slice ov (codeR ls k).length oc, .slice (some ⟨wr.heap.size + 1, 0, none⟩) 1 1]).run Tryd.prog ((wr.alloc (.cells #[.int .i64 xo, .int .i64 xa, .int .i64 xb, .int .i64 xc, .int .i64 xi] 32)).alloc (.cells #[.int .i64 xo, .int .i64 xa, .int .i64 xb, .int .i64 xc, .int .i64 xi] 32)) = .ok (.slice av2 (codeR ls (k + 1)).length c2') W2) := ha
          have HF : Hid (W2.ownsRow w.heap.size 32 5 (.slice av2 (codeR ls (k + 1)).length c2') (codeR ls (k + 1)).length ((codeR ls (k + 1)).flatMap Ins.cells) ∧ Below w.heap.size w W2) := ⟨ho2, hbr.trans ((hbA.mono hbs).trans hb2)⟩
          have HLD' := HLD.out (.inl ht)
          have HL2 : Hid (∀ j (hj : j < ls.length), j < k + 1 → (ls[j]'hj).L = 0 → (ls[j]'hj).t = 0 ∨ (ls[j]'hj).t ∈ labs ls) := HLD'
          clear hz ht ha ho2 hb2 hci hO hld hbr hlt HLD' hinr hbA
          generalize hg1 : (codeR ls (k + 1)).length = c1' at *
          have HG1 : Hid ((codeR ls (k + 1)).length = c1') := hg1
          clear hg1
          generalize (codeR ls k).length = c0' at *
          go_wp2_with (at_builtin; refine wpList_append_run rfl _ _ 24 rfl rfl rfl HA.out ?_)
          go_roundw
          case rel => exact ⟨k + 1, by go_num, HLT.out, by rw [HG1.out]; exact HF.out.1, HL2.out, HF.out.2⟩
          case measure => have := HLT.out; simp [intOf]; omega
        · have e3 : (xt != 0) = true := by simp [ht]
          have HPC : Hid (∀ W : World, Below wr.heap.size wr W → Calls Tryd.prog 25 #[.slice (some ⟨blk, off, none⟩) n cap, .int .i64 xt] W fun e w' => e = .returned (.int .i64 (placeR ls xt)) ∧ w' = W) := fun W hb => by
            have := place_is (some ⟨blk, off, none⟩) cap blk off ls xt W (by rw [HN.out]; omega) (HIR.out.later hb)
            rwa [HN.out] at this
          have HCA := HPC.out _ hbA
          have HC : Hid (Calls Tryd.prog 25 #[.slice (some ⟨blk, off, none⟩) n cap, .int .i64 xt] (wr.alloc (.cells #[.int .i64 xo, .int .i64 xa, .int .i64 xb, .int .i64 xc, .int .i64 xi] 32)) fun e w' => e = .returned (.int .i64 (placeR ls xt)) ∧ w' = (wr.alloc (.cells #[.int .i64 xo, .int .i64 xa, .int .i64 xb, .int .i64 xc, .int .i64 xi] 32))) := HCA
          clear HCA
          have hB2 : Below wr.heap.size wr (wr.alloc (.cells #[.int .i64 xo, .int .i64 xa, .int .i64 xb, .int .i64 xc, .int .i64 (placeR ls xt)] 32)) := (Below.refl wr.heap.size wr).alloc (Nat.le_refl _) _
          obtain ⟨av2, c2', W2, ha, ho2, hb2⟩ := app_ins (wr.alloc (.cells #[.int .i64 xo, .int .i64 xa, .int .i64 xb, .int .i64 xc, .int .i64 (placeR ls xt)] 32)) w.heap.size _ _ ⟨xo, xa, xb, xc, placeR ls xt⟩ (owns_below hO hB2) (by omega) (by simp; omega)
          have hsz2 : (wr.alloc (.cells #[.int .i64 xo, .int .i64 xa, .int .i64 xb, .int .i64 xc, .int .i64 (placeR ls xt)] 32)).heap.size = wr.heap.size + 1 := by simp
          rw [hsz2] at ha
          have hci := HCI.out
          rw [if_neg ht] at hci
          rw [← hci] at ha ho2
          have HA : Hid ((Builtin.append_ #[24, 24] 24 #[.slice ov (codeR ls k).length oc, .slice (some ⟨wr.heap.size + 1, 0, none⟩) 1 1]).run Tryd.prog ((wr.alloc (.cells #[.int .i64 xo, .int .i64 xa, .int .i64 xb, .int .i64 xc, .int .i64 (placeR ls xt)] 32)).alloc (.cells #[.int .i64 xo, .int .i64 xa, .int .i64 xb, .int .i64 xc, .int .i64 (placeR ls xt)] 32)) = .ok (.slice av2 (codeR ls (k + 1)).length c2') W2) := ha
          have HF : Hid (W2.ownsRow w.heap.size 32 5 (.slice av2 (codeR ls (k + 1)).length c2') (codeR ls (k + 1)).length ((codeR ls (k + 1)).flatMap Ins.cells) ∧ Below w.heap.size w W2) := ⟨ho2, hbr.trans ((hB2.mono hbs).trans hb2)⟩
          by_cases hin : xt ∈ labs ls
          · have e4 : (placeR ls xt < 0) = False := eq_false (by have := placeR_there hin; omega)
            have HL2 : Hid (∀ j (hj : j < ls.length), j < k + 1 → (ls[j]'hj).L = 0 → (ls[j]'hj).t = 0 ∨ (ls[j]'hj).t ∈ labs ls) := HLD.out (.inr hin)
            clear hz ht ha ho2 hb2 hci hO hld hbr hlt hinr hbA hin hB2 hsz2
            generalize hg1 : (codeR ls (k + 1)).length = c1' at *
            have HG1 : Hid ((codeR ls (k + 1)).length = c1') := hg1
            clear hg1
            generalize (codeR ls k).length = c0' at *
            generalize placeR ls xt = P at *
            go_wp2_with (first | (go_at_call 25; refine HC.out.mono ?_; rintro e wz ⟨rfl, rfl⟩) | (at_builtin; refine wpList_append_run rfl _ _ 24 rfl rfl rfl HA.out ?_))
            go_roundw
            case rel => exact ⟨k + 1, by go_num, HLT.out, by rw [HG1.out]; exact HF.out.1, HL2.out, HF.out.2⟩
            case measure => have := HLT.out; simp [intOf]; omega
          · have hP : placeR ls xt = -1 := placeR_none hin
            have e4 : ((-1 : Int) < 0) = True := eq_true (by omega)
            have HTN : Hid (Told ls 3) := HNO.out (by rintro (h | h); exact ht h; exact hin h)
            rw [hP] at HC
            have HBF : Hid (Below w.heap.size w (wr.alloc (.cells #[.int .i64 xo, .int .i64 xa, .int .i64 xb, .int .i64 xc, .int .i64 (-1)] 32))) := by rw [hP] at hB2; exact hbr.trans (hB2.mono hbs)
            clear hz ht ha ho2 hb2 hci hO hld hbr hlt hinr hbA hin hB2 HA HF hP hsz2
            generalize (codeR ls k).length = c0' at *
            go_wp2_with (first | (go_at_call 25; refine HC.out.mono ?_; rintro e wz ⟨rfl, rfl⟩))
            go_ret2
            exact ⟨HBF.out, .inl ⟨3, HTN.out, rfl⟩⟩
      · have e2 : ((ls[k]'hkl).L != 0) = true := by simp [hz]
        have hci := codeR_label ls k hkl hz
        have HF : Hid (wr.ownsRow w.heap.size 32 5 (.slice ov (codeR ls k).length oc) (codeR ls (k + 1)).length ((codeR ls (k + 1)).flatMap Ins.cells)) := by rw [Hid, hci]; exact hO
        have HL2 : Hid (∀ j (hj : j < ls.length), j < k + 1 → (ls[j]'hj).L = 0 → (ls[j]'hj).t = 0 ∨ (ls[j]'hj).t ∈ labs ls) := fun j hj hjk hz2 => by
          by_cases e : j = k
          · subst e; exact absurd hz2 hz
          · exact hld j hj (by omega) hz2
        generalize (ls[k]'hkl).L = xL at *
        clear hz hci hO hld hbr hlt hinr c1 c2 c3 c4 c5 c6
        generalize (codeR ls k).length = c0' at *
        go_wp2_with fail
        go_roundw
        case rel => exact ⟨k + 1, by go_num, HLT.out, HF.out, HL2.out, HBr.out⟩
        case measure => have := HLT.out; simp [intOf]; omega
    · have e1 : ((k : Int) < (n : Int)) = False := eq_false (by omega)
      have hkn : k = ls.length := by rw [HN.out]; omega
      have hall : codeR ls k = asmL ls := by
        rw [hkn]
        exact codeR_all (fun x hx hz => by
          obtain ⟨j, hj, rfl⟩ := List.mem_iff_getElem.1 hx
          exact hld j hj (by omega) hz)
      have hg : Good ls := ⟨HR.out, HND.out, fun x hx => by
        obtain ⟨j, hj, rfl⟩ := List.mem_iff_getElem.1 hx
        by_cases hz : (ls[j]'hj).L = 0
        · exact hld j hj (by omega) hz
        · exact .inl (right_label (HR.out _ hx) hz)⟩
      rw [hall] at hO hcl
      rw [hall]
      have HF : Hid (RAs ls w (.returned (.tuple #[.slice ov (asmL ls).length oc, .int .i64 0])) wr) := ⟨hbr, .inr ⟨hg, ov, oc, rfl, hO⟩⟩
      have hal : (asmL ls).length ≤ 100000 := by have := HN.out; omega
      generalize (asmL ls).length = an at *
      have e2 : ((1048576 : Int) < (an : Int)) = False := eq_false (by omega)
      clear hO hld hbr hlt hk hkn hall hg hcl hoc1
      go_wp2_with fail
      go_ret2
      exact HF.out

end Go.Proofs.YtbfmadcppnfgpaaDoor
