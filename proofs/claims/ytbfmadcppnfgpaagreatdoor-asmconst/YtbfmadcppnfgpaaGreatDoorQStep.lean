/-
  Package machine (layer 4): a step and a run, told plainly; the contracts of Step, Run, End, Left and Regs.
-/
import Derived.Test.YtbfmadcppnfgpaaGreatDoorQMachX
namespace Go.Proofs.YtbfmadcppnfgpaaGreatDoor.Q
open Go.ChangeShapes Go.WideShapes Go.ChangeAt Go.RowKit

/-- The instruction at a place. -/
def insAt (l : List Ins) (p : Int) : Option Ins := if 0 ≤ p then l[p.toNat]? else none
/-- What do does. -/
def doR (l : List Ins) (s : MS) : MS × Int × Int := match insAt l s.place with
  | none => (s, 0, 11)
  | some x => act x.o.toNat x.a.toNat x.b.toNat x.c.toNat x.i s
/-- A step. -/
def stepM (l : List Ins) (s : MS) : MS :=
  if s.over = true then s else if (doR l s).2.2 = 0 then { (doR l s).1 with place := (doR l s).2.1 } else (doR l s).1.fin (doR l s).2.2 0
/-- A run: the state, how many steps. -/
def runM (l : List Ins) : Nat → MS → MS × Nat
  | 0, s => (s, 0)
  | n + 1, s => if s.over = true then (s, 0) else ((runM l n (stepM l s)).1, (runM l n (stepM l s)).2 + 1)

theorem regB_nat {n : Int} {b : Bool} (h : regB n b = true) : ∃ k : Nat, n = k ∧ k < 16 := by
  unfold regB at h
  cases b <;> simp at h
  · exact ⟨0, h, by decide⟩
  · exact ⟨n.toNat, by omega, by omega⟩
theorem right_nat (x : Ins) (h : x.right = true) : ∃ o a b c : Nat, x = ⟨o, a, b, c, x.i⟩ ∧ o < 15 ∧ a < 16 ∧ b < 16 ∧ c < 16 := by
  obtain ⟨o, a, b, c, i⟩ := x
  simp only [Ins.right, rightB, holdB, Bool.and_eq_true] at h
  obtain ⟨hk, ⟨⟨⟨ha, hb⟩, hc⟩, _⟩⟩ := h
  obtain ⟨a, rfl, ha'⟩ := regB_nat ha
  obtain ⟨b, rfl, hb'⟩ := regB_nat hb
  obtain ⟨c, rfl, hc'⟩ := regB_nat hc
  unfold fK at hk
  simp at hk
  obtain ⟨o, rfl⟩ : ∃ k : Nat, o = k := ⟨o.toNat, by omega⟩
  exact ⟨o, a, b, c, rfl, by omega, ha', hb', hc'⟩

theorem do_all {w : World} {F D : Nat → Prop} {B Q R : Nat} {cv nv ov : Value} {l : List Ins} {s : MS} {p q : Int} (m : Mach w F D B Q R cv nv ov l s p q) (h3 : s.out.length ≤ 10000000) :
    Calls Tryz.prog 36 #[ptr B] w fun e w' => e = two (doR l s) ∧ Ans w F B l (doR l s).1 w' := by
  unfold doR insAt
  by_cases h0 : 0 ≤ s.place
  · rw [if_pos h0]
    by_cases hlt : s.place.toNat < l.length
    · rw [List.getElem?_eq_getElem hlt]
      obtain ⟨o, a, b, c, hx, ho, ha, hb, hc⟩ := right_nat _ (m.right _ (List.getElem_mem hlt))
      have := do_is m s.place.toNat o a b c (l[s.place.toNat]).i (by omega) hlt hx ho ha hb hc h3
      simp only
      rw [show (l[s.place.toNat]).o = o by rw [hx], show (l[s.place.toNat]).a = a by rw [hx], show (l[s.place.toNat]).b = b by rw [hx], show (l[s.place.toNat]).c = c by rw [hx]]
      exact this
    · rw [List.getElem?_eq_none (by omega)]
      exact ans_of (do_code m (.inr (by omega)))
  · rw [if_neg h0]
    exact ans_of (do_code m (.inl (by omega)))

theorem put_out (s : MS) (k : Nat) (v : Int) : (s.put k v).1.out = s.out := (put_kept s k v).2.1
theorem act_out (o a b c : Nat) (i : Int) (s : MS) : (act o a b c i s).1.out = s.out ∨ (act o a b c i s).1.out = s.out ++ [s.r a] := by
  unfold act
  split <;> first
    | exact .inr rfl
    | (left; first
        | rfl
        | exact put_out _ _ _
        | (unfold MS.bin; split <;> first | exact put_out _ _ _ | rfl)
        | (unfold MS.ld; split <;> first | exact put_out _ _ _ | rfl)
        | (unfold MS.st; split <;> rfl)
        | (unfold MS.take; split <;> first | rfl | (split <;> exact put_out _ _ _))
        | (unfold MS.grow; split <;> first | exact put_out _ _ _ | rfl))
theorem step_out (l : List Ins) (s : MS) : (stepM l s).out = s.out ∨ ∃ v, (stepM l s).out = s.out ++ [v] := by
  unfold stepM
  split
  · exact .inl rfl
  · have : (doR l s).1.out = s.out ∨ ∃ v, (doR l s).1.out = s.out ++ [v] := by
      unfold doR
      split
      · exact .inl rfl
      · rename_i x _
        rcases act_out x.o.toNat x.a.toNat x.b.toNat x.c.toNat x.i s with h | h
        · exact .inl h
        · exact .inr ⟨_, h⟩
    split <;> exact this
theorem step_len (l : List Ins) (s : MS) : (stepM l s).out.length ≤ s.out.length + 1 := by
  rcases step_out l s with h | ⟨v, h⟩ <;> simp [h]

theorem step_mac {w : World} {F : Nat → Prop} {B : Nat} {l : List Ins} {s : MS} (hm : Mac w F B l s) (h3 : s.out.length ≤ 10000000) :
    Calls Tryz.prog 24 #[ptr B] w fun e w' => e = .returned (.bool (!s.over)) ∧ Ans w F B l (stepM l s) w' := by
  obtain ⟨D, Q, R, cv, nv, ov, p, q, m⟩ := hm
  have kv := m.cv_
  cases ho : s.over with
  | true =>
    have hs : stepM l s = s := if_pos ho
    rw [ho] at kv
    rw [hs]
    go_enter Tryz.func24, Tryz.ntmps24
    go_wp2
    go_ret
    exact ⟨rfl, Moves.refl F w, F, fun _ h => .inl h, m.mac⟩
  | false =>
    rw [ho] at kv
    have hd := do_all m h3
    have hs : stepM l s = if (doR l s).2.2 = 0 then { (doR l s).1 with place := (doR l s).2.1 } else (doR l s).1.fin (doR l s).2.2 0 := if_neg (by simp [ho])
    rw [hs]
    clear hs
    generalize doR l s = r at *
    obtain ⟨s1, nx, er⟩ := r
    simp only at hd ⊢
    by_cases he : er = 0
    · subst he
      go_enter Tryz.func24, Tryz.ntmps24
      go_wp2_with fail
      refine hd.mono ?_; rintro e w2 ⟨rfl, M2, F2, hF2, D2, Q2, R2, cv2, nv2, ov2, p2, q2, m2⟩
      have k := m2.cp
      have kf := m2.fr 18
      go_wp2_with fail
      go_ret
      exact ⟨rfl, Ans.next M2 hF2 ⟨(Moves.refl F2 w2).setCell _ _ m2.fB _, F2, fun _ h => .inl h, (m2.setPlace nx).mac⟩⟩
    · have e1 : (er == 0) = false := by simp [he]
      rw [if_neg he]
      clear he
      go_enter Tryz.func24, Tryz.ntmps24
      go_wp2_with fail
      refine hd.mono ?_; rintro e w2 ⟨rfl, M2, F2, hF2, D2, Q2, R2, cv2, nv2, ov2, p2, q2, m2⟩
      go_wp2_with fail
      refine (finish_any m2 er 0).mono ?_; rintro e w3 ⟨rfl, M3, m3⟩
      go_wp2_with fail
      go_ret
      exact ⟨rfl, Ans.next M2 hF2 ⟨M3, F2, fun _ h => .inl h, m3.mac⟩⟩

theorem run_mac {w : World} {F : Nat → Prop} {B : Nat} {l : List Ins} {s : MS} (hm : Mac w F B l s) (n : Nat) (h3 : s.out.length + n ≤ 10000000) :
    Calls Tryz.prog 9 #[ptr B, iv n] w fun e w' => e = .returned (iv (runM l n s).2) ∧ Ans w F B l (runM l n s).1 w' := by
  have hn : n ≤ 10000000 := by omega
  go_enter Tryz.func9, Tryz.ntmps9
  go_wp2
  go_loopw [5] (fun i wr => ∃ (j k : Nat) (t : MS), j + k = n ∧ i = .int .i64 j ∧ Ans w F B l t wr ∧ t.out.length + k ≤ 10000000 ∧ runM l n s = ((runM l k t).1, (runM l k t).2 + j)) (fun i _ => n - (intOf i).toNat)
  case atStart => exact ⟨0, n, s, by omega, rfl, ⟨Moves.refl F w, F, fun _ h => .inl h, hm⟩, h3, rfl⟩
  case round =>
    obtain ⟨j, k, t, hjk, rfl, hans, hlen, hrun⟩ := hrel
    obtain ⟨M1, F1, hF1, hm1⟩ := hans
    by_cases hlt : j < n
    · have e1 : ((j : Int) < n) = True := by simp; omega
      have e1' : decide ((j : Int) < n) = true := by simp; omega
      obtain ⟨k', rfl⟩ : ∃ k', k = k' + 1 := ⟨k - 1, by omega⟩
      have hst := step_mac hm1 (by omega)
      have hsl := step_len l t
      cases ho : t.over with
      | true =>
        have hr : runM l (k' + 1) t = (t, 0) := if_pos ho
        have hs : stepM l t = t := if_pos ho
        rw [hr] at hrun
        rw [ho, hs] at hst
        rw [hrun]
        have HX : Hid (runM l n s = (t, 0 + j)) := hrun
        clear hrun hr
        go_wp2_with fail
        refine hst.mono ?_; rintro e w2 ⟨rfl, hans2⟩
        go_wp2_with fail
        go_ret
        exact ⟨by rw [HX.out]; simp, by rw [HX.out]; exact Ans.next M1 hF1 hans2⟩
      | false =>
        have hr : runM l (k' + 1) t = ((runM l k' (stepM l t)).1, (runM l k' (stepM l t)).2 + 1) := if_neg (by simp [ho])
        rw [hr] at hrun
        rw [ho] at hst
        have HX : Hid (runM l n s = ((runM l k' (stepM l t)).1, (runM l k' (stepM l t)).2 + 1 + j)) := hrun
        clear hrun hr
        go_wp2_with fail
        refine hst.mono ?_; rintro e w2 ⟨rfl, hans2⟩
        go_wp2_with fail
        go_roundw
        case rel => exact ⟨j + 1, k', stepM l t, by omega, by go_num, Ans.next M1 hF1 hans2, by omega, by rw [HX.out]; simp; omega⟩
        case measure => simp [intOf]; omega
    · have e1 : ((j : Int) < n) = False := by simp; omega
      obtain rfl : k = 0 := by omega
      have HX : Hid (runM l n s = (t, 0 + j)) := hrun
      clear hrun
      go_wp2
      go_ret
      exact ⟨by rw [HX.out]; simp, by rw [HX.out]; exact ⟨M1, F1, hF1, hm1⟩⟩

theorem list16 : ∀ (l : List Int), l.length = 16 → ∃ r0 r1 r2 r3 r4 r5 r6 r7 r8 r9 r10 r11 r12 r13 r14 r15 : Int, l = [r0, r1, r2, r3, r4, r5, r6, r7, r8, r9, r10, r11, r12, r13, r14, r15]
  | [r0, r1, r2, r3, r4, r5, r6, r7, r8, r9, r10, r11, r12, r13, r14, r15], _ => ⟨r0, r1, r2, r3, r4, r5, r6, r7, r8, r9, r10, r11, r12, r13, r14, r15, rfl⟩

end Go.Proofs.YtbfmadcppnfgpaaGreatDoor.Q
