/-
  There and back (layer 10): a tree's text is that of its tokens, and these are cut out of it again. No program is named.
-/
import Derived.Test.YtgndnodahlabiaaBkD
import Derived.Test.YtgndnodahlabiaaMgK
namespace Go.Proofs.Ytgndnodahlabiaa

theorem row_room' (k : Int) (t : List UInt8) (l : List (List UInt8)) : room (rowP k t l) ≤ t.length + 17 + tot l := by
  have h3 := tot_three l
  have hi : ∀ q, room (inter q) ≤ tot q := inter_room
  have h1 := hi l
  have h2 := hi (l.take (l.length - 2))
  have h4 := take_tot l (l.length - 2)
  have h5 := room_tot (l.drop (l.length - 2))
  have h6 := room_tot l
  have h7 := take_tot l 1
  have h8 := room_tot (l.take 1)
  by_cases c2 : k = 2
  · subst c2; rw [rowP_2]; simp only [room_append, room_cons, room_nil, List.length_cons, List.length_nil]; omega
  by_cases c3 : k = 3
  · subst c3; rw [rowP_3]; simp only [room_cons, room_nil]; omega
  by_cases c4 : k = 4
  · subst c4; rw [rowP_4]; rw [room_nil]; omega
  by_cases c5 : k = 5
  · subst c5; rw [rowP_5]; simp only [room_cons, room_nil, List.length_cons, List.length_nil]; omega
  by_cases c6 : k = 6
  · subst c6; rw [rowP_6]; simp only [room_cons, room_nil, List.length_cons, List.length_nil]; omega
  by_cases c7 : k = 7
  · subst c7; rw [rowP_7]; simp only [room_cons, room_nil, List.length_cons, List.length_nil]; omega
  by_cases c8 : k = 8
  · subst c8; rw [rowP_8]; simp only [room_append, room_cons, room_nil, List.length_cons, List.length_nil]; omega
  by_cases c9 : k = 9
  · subst c9; rw [rowP_9]; simp only [room_append, room_cons, room_nil, List.length_cons, List.length_nil]; omega
  by_cases c10 : k = 10
  · subst c10; rw [rowP_10]; simp only [room_cons, room_nil, List.length_cons, List.length_nil]; omega
  by_cases c11 : k = 11
  · subst c11; rw [rowP_11]; simp only [room_cons, room_nil, List.length_cons, List.length_nil]; omega
  by_cases c12 : k = 12
  · subst c12; rw [rowP_12]; split <;> simp only [List.append_nil, List.cons_append, List.nil_append, room_cons, room_nil, List.length_cons, List.length_nil] <;> omega
  by_cases c13 : k = 13
  · subst c13; rw [rowP_13]; simp only [room_cons, room_nil, List.length_cons, List.length_nil]; omega
  by_cases c14 : k = 14
  · subst c14; rw [rowP_14]; simp only [room_append, room_cons, room_nil, List.length_cons, List.length_nil]; omega
  by_cases c15 : k = 15
  · subst c15; rw [rowP_15]; simp only [room_cons, room_nil, List.length_cons, List.length_nil]; omega
  by_cases c16 : k = 16
  · subst c16; rw [rowP_16]; simp only [room_cons, room_nil, List.length_cons, List.length_nil]; omega
  by_cases c17 : k = 17
  · subst c17; rw [rowP_17]; simp only [room_cons, room_nil]; omega
  by_cases c18 : k = 18
  · subst c18; rw [rowP_18]; simp only [room_cons, room_nil]; omega
  by_cases c19 : k = 19
  · subst c19; rw [rowP_19]; simp only [room_cons, room_nil, List.length_cons, List.length_nil]; omega
  by_cases c20 : k = 20
  · subst c20; rw [rowP_20]; simp only [room_cons, room_nil, List.length_cons, List.length_nil]; omega
  by_cases c21 : k = 21
  · subst c21; rw [rowP_21]; simp only [room_cons, room_nil, List.length_cons, List.length_nil]; omega
  by_cases c22 : k = 22
  · subst c22; rw [rowP_22]; simp only [room_cons, room_nil, List.length_cons, List.length_nil]; omega
  by_cases c23 : k = 23
  · subst c23; rw [rowP_23]; simp only [room_cons, room_nil, List.length_cons, List.length_nil]; omega
  by_cases c24 : k = 24
  · subst c24; rw [rowP_24]; simp only [room_cons, room_nil, List.length_cons, List.length_nil]; omega
  by_cases c25 : k = 25
  · subst c25; rw [rowP_25]; simp only [room_append, room_cons, room_nil, List.length_cons, List.length_nil]; omega
  by_cases c26 : k = 26
  · subst c26; rw [rowP_26]; simp only [room_cons, room_nil, List.length_cons, List.length_nil]; omega
  by_cases c27 : k = 27
  · subst c27; rw [rowP_27]; simp only [room_cons, room_nil, List.length_cons, List.length_nil]; omega
  have : rowP k t l = [] := by unfold rowP; simp [c2, c3, c4, c5, c6, c7, c8, c9, c10, c11, c12, c13, c14, c15, c16, c17, c18, c19, c20, c21, c22, c23, c24, c25, c26, c27]
  rw [this, room_nil]; omega
mutual
theorem txt_wt : ∀ n : Nd, (txt n).length + 3 ≤ wt n
  | .mk k t _ ks => by
    rw [txt, wt]
    have h1 := txtL_wt ks
    unfold nodeT
    split
    · simp; omega
    · split
      · simp; omega
      · split
        · have := flat_tot (txtL ks); omega
        · have := wcat_room (rowP k t (txtL ks)); have := row_room' k t (txtL ks); omega
theorem txtL_wt : ∀ l : List Nd, tot (txtL l) ≤ wtL l
  | [] => by simp [txtL, wtL, tot]
  | n :: r => by
    rw [txtL, wtL, tot_cons]
    have := txt_wt n
    have := txtL_wt r
    omega
end
/- Texts. -/
abbrev snd (l : List Tk) : List (List UInt8) := l.map Prod.snd
theorem txt_mk (k : Int) (t : List UInt8) (a : Int) (ks : List Nd) : txt (.mk k t a ks) = nodeT k t (txtL ks) := by rw [txt]
theorem txtL1 (x : Nd) : txtL [x] = [txt x] := by rw [txtL, txtL]
theorem txtL2 (x y : Nd) : txtL [x, y] = [txt x, txt y] := by rw [txtL, txtL1]
theorem txtL3 (x y z : Nd) : txtL [x, y, z] = [txt x, txt y, txt z] := by rw [txtL, txtL2]
theorem wcat_cons (p : List UInt8) (r : List (List UInt8)) : wcat (p :: r) = wth p (wcat r) := by rw [wcat]
theorem wcat_nil : wcat [] = [] := by rw [wcat]
theorem wcat_kids {ks : List Nd} {f : Nd → List Tk} (h : ∀ n, n ∈ ks → txt n = wcat (snd (f n))) : wcat (txtL ks) = wcat (snd (ks.map f).flatten) := by
  induction ks with
  | nil => rfl
  | cons n r ih =>
    rw [txtL, wcat_cons, List.map_cons, List.flatten_cons, snd, List.map_append, wcat_append, h n (by simp), ih (fun x hx => h x (by simp [hx]))]
theorem wcat_inter {ks : List Nd} {f : Nd → List Tk} (h : ∀ n, n ∈ ks → txt n = wcat (snd (f n))) : wcat (inter (txtL ks)) = wcat (snd (interT (ks.map f))) := by
  cases ks with
  | nil => rfl
  | cons n r =>
    rw [txtL, inter_cons, wcat_cons, List.map_cons, interT, snd, List.map_append, wcat_append, h n (by simp)]
    congr 1
    replace h : ∀ x, x ∈ r → txt x = wcat (snd (f x)) := fun x hx => h x (by simp [hx])
    clear n
    induction r with
    | nil => rfl
    | cons n r ih =>
      rw [txtL, List.flatMap_cons, List.map_cons, List.flatMap_cons, List.map_append, wcat_append, wcat_append, ih (fun x hx => h x (by simp [hx])), h n (by simp)]
      congr 1
      rw [List.map_cons, wcat_cons, wcat_cons, wcat_cons, wcat_nil, wth_nil]
theorem ShT.txt {n : Nd} {l : List Tk} (h : ShT n l) : Ytgndnodahlabiaa.txt n = wcat (snd l) := by
  induction h with
  | int a => rfl
  | ptr a _ ih => rw [txt_mk, txtL1, ih]; simp only [snd, List.map_cons, wcat_cons]; show wcat [_, _] = _; simp only [wcat_cons, wcat_nil, wth_nil]; rfl
  | arr a _ _ ih => rw [txt_mk, txtL1, ih]; simp only [snd, List.map_cons, wcat_cons]; show wcat [_, _, _, _] = _; simp only [wcat_cons, wcat_nil, wth_nil]; rfl
  | tup a f hne hk ih =>
    rename_i ks
    rw [txt_mk]
    have e : nodeT 8 [] (txtL ks) = wcat ([[40]] ++ inter (txtL ks) ++ [[41]]) := by
      cases ks with
      | nil => exact absurd rfl hne
      | cons n r => rw [txtL]; rfl
    rw [e]
    simp only [snd, List.map_cons, List.map_append, wcat_cons, wcat_append, wcat_inter ih, wth_assoc, wcat_nil, wth_nil, List.map_nil]
theorem ShX.txt {n : Nd} {l : List Tk} (h : ShX n l) : Ytgndnodahlabiaa.txt n = wcat (snd l) := by
  induction h with
  | num a _ => rw [txt_mk]; rfl
  | use a _ _ => rw [txt_mk]; rfl
  | call a f _ _ hk ih =>
    rename_i t ks _ _
    rw [txt_mk]
    show wcat ([t, [40]] ++ inter (txtL ks) ++ [[41]]) = _
    simp only [snd, List.map_cons, List.map_append, wcat_cons, wcat_append, wcat_inter ih, wth_assoc, wcat_nil, wth_nil, List.map_nil]
  | new a hT => rw [txt_mk, txtL1, hT.txt]; show wcat [_, _, _, _] = _; simp only [snd, List.map_cons, List.map_append, wcat_cons, wcat_append, wcat_nil, wth_nil, List.map_nil]; rfl
  | read a => rfl
  | bin a _ _ _ ihx ihy => rw [txt_mk, txtL2, ihx, ihy]; show wcat [_, _, _, _, _] = _; simp only [snd, List.map_cons, List.map_append, wcat_cons, wcat_append, wcat_nil, wth_nil, List.map_nil]; rfl
  | un a k q hk _ ih =>
    rw [txt_mk, txtL1, ih]
    rcases hk with ⟨rfl, rfl⟩ | ⟨rfl, rfl⟩ | ⟨rfl, rfl⟩ <;>
    · show wcat [_, _, _, _] = _; simp only [snd, List.map_cons, List.map_append, wcat_cons, wcat_append, wcat_nil, wth_nil, List.map_nil]; rfl
  | idx a _ _ ihx ihy => rw [txt_mk, txtL2, ihx, ihy]; show wcat [_, _, _, _] = _; simp only [snd, List.map_cons, List.map_append, wcat_cons, wcat_append, wcat_nil, wth_nil, List.map_nil]; rfl
  | fld a _ _ ih => rw [txt_mk, txtL1, ih]; show wcat [_, _, _] = _; simp only [snd, List.map_cons, List.map_append, wcat_cons, wcat_append, wcat_nil, wth_nil, List.map_nil]; rfl
theorem ShS.txt {b : Bool} {n : Nd} {l : List Tk} (h : ShS b n l) : Ytgndnodahlabiaa.txt n = wcat (snd l) := by
  induction h with
  | var a _ _ hT => rw [txt_mk, txtL1, hT.txt]; show wcat [_, _, _, _] = _; simp only [snd, List.map_cons, List.map_append, wcat_cons, wcat_append, wcat_nil, wth_nil, List.map_nil]; rfl
  | ret a => rw [txt_mk]; show wcat ([[114, 101, 116, 117, 114, 110]] ++ [] ++ [[59]]) = _; rfl
  | retx a hx => rw [txt_mk, txtL1, hx.txt]; show wcat [_, _, _] = _; simp only [snd, List.map_cons, List.map_append, wcat_cons, wcat_append, wcat_nil, wth_nil, List.map_nil]
  | prt a hx => rw [txt_mk, txtL1, hx.txt]; show wcat [_, _, _] = _; simp only [snd, List.map_cons, List.map_append, wcat_cons, wcat_append, wcat_nil, wth_nil, List.map_nil]; rfl
  | do_ a hx _ => rw [txt_mk, txtL1, hx.txt]; show wcat [_, _] = _; simp only [snd, List.map_cons, List.map_append, wcat_cons, wcat_append, wcat_nil, wth_nil, List.map_nil]; rfl
  | set a hx hy => rw [txt_mk, txtL2, hx.txt, hy.txt]; show wcat [_, _, _, _] = _; simp only [snd, List.map_cons, List.map_append, wcat_cons, wcat_append, wcat_nil, wth_nil, List.map_nil]; rfl
  | ite a hx _ ihb => rw [txt_mk, txtL2, hx.txt, ihb]; show wcat [_, _, _] = _; simp only [snd, List.map_cons, List.map_append, wcat_cons, wcat_append, wcat_nil, wth_nil]; rfl
  | ite2 a hx _ _ ihb ihd => rw [txt_mk, txtL3, hx.txt, ihb, ihd]; show wcat [_, _, _, _, _] = _; simp only [snd, List.map_cons, List.map_append, wcat_cons, wcat_append, wcat_nil, wth_nil]; rfl
  | for_ a hx _ ihb => rw [txt_mk, txtL2, hx.txt, ihb]; show wcat [_, _, _] = _; simp only [snd, List.map_cons, List.map_append, wcat_cons, wcat_append, wcat_nil, wth_nil]; rfl
  | block a f hk ih =>
    rename_i ks
    rw [txt_mk]
    show wcat ([[123]] ++ txtL ks ++ [[125]]) = _
    simp only [snd, List.map_cons, List.map_append, wcat_cons, wcat_append, wcat_kids ih, wth_assoc, wcat_nil, wth_nil, List.map_nil]
theorem ShP.txt {n : Nd} {l : List Tk} (h : ShP n l) : Ytgndnodahlabiaa.txt n = wcat (snd l) := by
  cases h with
  | mk a _ _ hT => rw [txt_mk, txtL1, hT.txt]; show wcat [_, _] = _; simp only [snd, List.map_cons, wcat_cons, wcat_nil, wth_nil]; rfl
theorem ShR.txt {n : Nd} {l : List Tk} (h : ShR n l) : Ytgndnodahlabiaa.txt n = wcat (snd l) := by
  cases h with
  | void a => rfl
  | typ hT => exact hT.txt
theorem ShF.txt {n : Nd} {l : List Tk} (h : ShF n l) : Ytgndnodahlabiaa.txt n = wcat (snd l) := by
  cases h with
  | @mk a t ks f rn bn rl bl _ _ hk hr hb =>
    rw [txt_mk, txtL_map, List.map_append]
    have hlen : (List.map Ytgndnodahlabiaa.txt ks ++ List.map Ytgndnodahlabiaa.txt [rn, bn]).length = ks.length + 2 := by simp
    have e : nodeT 2 t (List.map Ytgndnodahlabiaa.txt ks ++ List.map Ytgndnodahlabiaa.txt [rn, bn]) = wcat (rowP 2 t (List.map Ytgndnodahlabiaa.txt ks ++ List.map Ytgndnodahlabiaa.txt [rn, bn])) := by
      unfold nodeT
      rw [show leastK 2 = some 2 by decide]
      simp only
      rw [if_neg (by rw [hlen]; omega), if_neg (by decide)]
    rw [e, rowP_2, hlen, Nat.add_sub_cancel, List.take_left' (by simp), List.drop_left' (by simp), ← txtL_map]
    simp only [snd, List.map_cons, List.map_append, List.map_nil, List.cons_append, List.nil_append, List.append_assoc, wcat_cons, wcat_append, wcat_inter (fun n hn => (hk n hn).txt), hr.txt, hb.txt, wcat_nil, wth_nil]
/- Whole tokens. -/
def allQ : List (List UInt8) := wordsL ++ binL ++ [[40], [41], [91], [93], [123], [125], [44], [59], [46], [61]]
theorem whole_all : ∀ q, q ∈ allQ → q ≠ [] ∧ first q = (kindOf q, q.length) := by decide +kernel
theorem whole_sg {q : List UInt8} (h : q ∈ allQ) : Whole (sg q).1 (sg q).2 := whole_all q h
abbrev WL (l : List Tk) : Prop := ∀ x, x ∈ l → Whole x.1 x.2
theorem WL.cons {x : Tk} {l : List Tk} (h : Whole x.1 x.2) (k : WL l) : WL (x :: l) := fun y hy => by
  rcases List.mem_cons.1 hy with rfl | hy
  · exact h
  · exact k y hy
theorem WL.sg {q : List UInt8} {l : List Tk} (h : q ∈ allQ) (k : WL l) : WL (Ytgndnodahlabiaa.sg q :: l) := WL.cons (whole_sg h) k
theorem WL.nil : WL [] := fun x hx => by cases hx
theorem WL.app {l m : List Tk} (h : WL l) (k : WL m) : WL (l ++ m) := fun y hy => by
  rcases List.mem_append.1 hy with hy | hy
  · exact h y hy
  · exact k y hy
theorem WL.flat {ks : List Nd} {f : Nd → List Tk} (h : ∀ n, n ∈ ks → WL (f n)) : WL (ks.map f).flatten := fun y hy => by
  obtain ⟨l, hl, hy⟩ := List.mem_flatten.1 hy
  obtain ⟨n, hn, rfl⟩ := List.mem_map.1 hl
  exact h n hn y hy
theorem WL.inter {ks : List Nd} {f : Nd → List Tk} (h : ∀ n, n ∈ ks → WL (f n)) : WL (interT (ks.map f)) := by
  cases ks with
  | nil => exact WL.nil
  | cons n r =>
    rw [List.map_cons, interT]
    refine WL.app (h n (by simp)) fun y hy => ?_
    obtain ⟨l, hl, hy⟩ := List.mem_flatMap.1 hy
    obtain ⟨m, hm, rfl⟩ := List.mem_map.1 hl
    exact WL.sg (by decide) (h m (by simp [hm])) y hy
theorem ShT.whole {n : Nd} {l : List Tk} (h : ShT n l) : WL l := by
  induction h with
  | int a => exact WL.sg (by decide) WL.nil
  | ptr a _ ih => exact WL.sg (by decide) ih
  | arr a hw _ ih => exact WL.sg (by decide) (WL.cons hw (WL.sg (by decide) ih))
  | tup a f _ _ ih => exact WL.sg (by decide) (WL.app (WL.inter ih) (WL.sg (by decide) WL.nil))
theorem bin_all : ∀ q, q ∈ binL → q ∈ allQ := by decide
theorem ShX.whole {n : Nd} {l : List Tk} (h : ShX n l) : WL l := by
  induction h with
  | num a hw => exact WL.cons hw WL.nil
  | use a hw _ => exact WL.cons hw WL.nil
  | call a f hw _ _ ih => exact WL.cons hw (WL.sg (by decide) (WL.app (WL.inter ih) (WL.sg (by decide) WL.nil)))
  | new a hT => exact WL.sg (by decide) (WL.sg (by decide) (WL.app hT.whole (WL.sg (by decide) WL.nil)))
  | read a => exact WL.sg (by decide) WL.nil
  | bin a ht _ _ ihx ihy => exact WL.sg (by decide) (WL.app ihx (WL.sg (bin_all _ ht) (WL.app ihy (WL.sg (by decide) WL.nil))))
  | un a k q hk _ ih => exact WL.sg (by decide) (WL.sg (by rcases hk with ⟨_, rfl⟩ | ⟨_, rfl⟩ | ⟨_, rfl⟩ <;> decide) (WL.app ih (WL.sg (by decide) WL.nil)))
  | idx a _ _ ihx ihy => exact WL.app ihx (WL.sg (by decide) (WL.app ihy (WL.sg (by decide) WL.nil)))
  | fld a hw _ ih => exact WL.app ih (WL.sg (by decide) (WL.cons hw WL.nil))
theorem ShS.whole {b : Bool} {n : Nd} {l : List Tk} (h : ShS b n l) : WL l := by
  induction h with
  | var a hw _ hT => exact WL.sg (by decide) (WL.cons hw (WL.app hT.whole (WL.sg (by decide) WL.nil)))
  | ret a => exact WL.sg (by decide) (WL.sg (by decide) WL.nil)
  | retx a hx => exact WL.sg (by decide) (WL.app hx.whole (WL.sg (by decide) WL.nil))
  | prt a hx => exact WL.sg (by decide) (WL.app hx.whole (WL.sg (by decide) WL.nil))
  | do_ a hx _ => exact WL.app hx.whole (WL.sg (by decide) WL.nil)
  | set a hx hy => exact WL.app hx.whole (WL.sg (by decide) (WL.app hy.whole (WL.sg (by decide) WL.nil)))
  | ite a hx _ ihb => exact WL.sg (by decide) (WL.app hx.whole ihb)
  | ite2 a hx _ _ ihb ihd => exact WL.sg (by decide) (WL.app hx.whole (WL.app ihb (WL.sg (by decide) ihd)))
  | for_ a hx _ ihb => exact WL.sg (by decide) (WL.app hx.whole ihb)
  | block a f _ ih => exact WL.sg (by decide) (WL.app (WL.flat ih) (WL.sg (by decide) WL.nil))
theorem ShF.whole {n : Nd} {l : List Tk} (h : ShF n l) : WL l := by
  cases h with
  | @mk a t ks f rn bn rl bl hw _ hk hr hb =>
    refine WL.sg (by decide) (WL.cons hw (WL.sg (by decide) (WL.app (WL.inter fun n hn => ?_) (WL.sg (by decide) (WL.app ?_ hb.whole)))))
    · have := hk n hn
      generalize f n = fl at this ⊢
      cases this with
      | mk a hw _ hT => exact WL.cons hw hT.whole
    · cases hr with
      | void a => exact WL.nil
      | typ hT => exact hT.whole
/- Cut out again. -/
theorem wcat_ne {x : Tk} {l : List Tk} (h : WL (x :: l)) : wcat (snd (x :: l)) ≠ [] := by
  have hx := (h x (by simp)).1
  rw [snd, List.map_cons, wcat_cons]
  unfold wth
  split
  · simp [hx]
  · simp
abbrev tok (x : Tk) : Tok := ⟨x.1, x.2, 0⟩
theorem joinL_wcat : ∀ {l : List Tk}, WL l → joinL ((l.map tok).map Tok.z) = wcat (snd l)
  | [], _ => rfl
  | [x], _ => by
    show x.2 ++ [] = wcat [x.2]
    rw [wcat_one, List.append_nil]
  | x :: y :: r, h => by
    have hx := (h x (by simp)).1
    have hr : WL (y :: r) := fun z hz => h z (by simp [hz])
    have ih := joinL_wcat hr
    show _ = wcat (x.2 :: snd (y :: r))
    rw [wcat_cons, wth_ne hx (wcat_ne hr), ← ih]
    rfl
theorem lex_wcat {l : List Tk} (h : WL l) : ∃ us, lexS (wcat (snd l)) = (us, none) ∧ us.map (fun x => (x.k, x.t)) = l := by
  have hw : ∀ x ∈ l.map tok, Whole x.k x.t := fun x hx => by
    obtain ⟨y, hy, rfl⟩ := List.mem_map.1 hx
    exact h y hy
  rw [← joinL_wcat h, lexS_eq]
  have hb : betw (joinL ((l.map tok).map Tok.z)) = 0 := by
    cases l with
    | nil => rfl
    | cons y r => exact (hw (tok y) (by simp)).betw (jrest_shape ((r.map tok).map Tok.z))
  rw [hb, List.drop_zero]
  obtain ⟨us, h1, h2⟩ := toks_join (l.map tok) 0 hw
  refine ⟨us, h1, ?_⟩
  rw [h2, List.map_map]
  exact List.map_id' _
theorem lex_lines : ∀ {ls : List (List Tk)}, (∀ l, l ∈ ls → WL l) → ∃ us, lexS (ls.flatMap fun l => wcat (snd l) ++ [10]) = (us, none) ∧ us.map (fun x => (x.k, x.t)) = ls.flatten
  | [], _ => ⟨[], by rfl, rfl⟩
  | l :: r, h => by
    obtain ⟨us, h1, h2⟩ := lex_wcat (h l (by simp))
    obtain ⟨vs, h3, h4⟩ := lex_lines (ls := r) (fun x hx => h x (by simp [hx]))
    rw [List.flatMap_cons, List.append_assoc, List.singleton_append, lexS_both, h1, h3]
    refine ⟨us ++ vs.map fun x => ⟨x.k, x.t, x.a + ((wcat (snd l)).length + 1)⟩, rfl, ?_⟩
    rw [List.map_append, h2, List.map_map, List.flatten_cons]
    congr 1
theorem at_of : ∀ {l : List Tk} {us : List Tok} {pre : List Tk}, us.map (fun x => (x.k, x.t)) = pre ++ l → At us pre.length l
  | [], _, _, _ => trivial
  | x :: l, us, pre, h => by
    have h1 : (us.map (fun x => (x.k, x.t)))[pre.length]? = some x := by rw [h]; simp
    rw [List.getElem?_map] at h1
    cases hu : us[pre.length]? with
    | none => rw [hu] at h1; cases h1
    | some u =>
      rw [hu] at h1
      simp only [Option.map_some, Option.some.injEq] at h1
      refine ⟨⟨u.a, by rw [← h1]; exact hu⟩, ?_⟩
      have := at_of (l := l) (us := us) (pre := pre ++ [x]) (by rw [h]; simp)
      simpa using this
mutual
theorem same_txt : ∀ {n m : Nd}, sameB n m = true → txt n = txt m
  | .mk k t a ks, .mk k' t' a' ks', h => by
    simp only [sameB, Bool.and_eq_true, decide_eq_true_eq] at h
    rw [txt_mk, txt_mk, h.1, h.2.1, sameL_txt h.2.2]
theorem sameL_txt : ∀ {l m : List Nd}, sameL l m = true → txtL l = txtL m
  | [], [], _ => rfl
  | [], _ :: _, h => by simp [sameL] at h
  | _ :: _, [], h => by simp [sameL] at h
  | n :: r, m :: q, h => by
    simp only [sameL, Bool.and_eq_true] at h
    rw [txtL, txtL, same_txt h.1, sameL_txt h.2]
end
mutual
theorem same_ned : ∀ {n m : Nd}, sameB n m = true → ned n = ned m
  | .mk k t a ks, .mk k' t' a' ks', h => by
    simp only [sameB, Bool.and_eq_true, decide_eq_true_eq] at h
    rw [ned, ned, h.2.1, sameL_ned h.2.2]
theorem sameL_ned : ∀ {l m : List Nd}, sameL l m = true → nedL l = nedL m
  | [], [], _ => rfl
  | [], _ :: _, h => by simp [sameL] at h
  | _ :: _, [], h => by simp [sameL] at h
  | n :: r, m :: q, h => by
    simp only [sameL, Bool.and_eq_true] at h
    rw [nedL, nedL, same_ned h.1, sameL_ned h.2]
end
mutual
theorem ned_wt : ∀ n : Nd, ned n + 4 ≤ 4 * wt n
  | .mk k t a ks => by
    rw [ned, wt]
    have := nedL_wt ks
    omega
theorem nedL_wt : ∀ l : List Nd, nedL l ≤ 4 * wtL l
  | [] => by rw [nedL, wtL]; exact Nat.le_refl _
  | n :: r => by
    rw [nedL, wtL]
    have := ned_wt n
    have := nedL_wt r
    omega
end
theorem toks_sum : ∀ (n at_ : Nat) (l : List UInt8), l.length ≤ n → ((toks at_ l).1.map fun x => x.t.length).sum ≤ l.length
  | n, at_, [], _ => by simp [toks_nil]
  | 0, _, c :: t, h => by simp at h
  | n + 1, at_, c :: t, h => by
    by_cases hz : (first (c :: t)).2 = 0
    · rw [toks_bad at_ (by simp) hz]; simp
    · rw [toks_tok at_ hz]
      have := toks_sum n (at_ + (first (c :: t)).2 + betw ((c :: t).drop (first (c :: t)).2)) ((c :: t).drop ((first (c :: t)).2 + betw ((c :: t).drop (first (c :: t)).2))) (by rw [List.length_drop]; simp at h ⊢; omega)
      rw [List.length_drop] at this
      have h5 := first_le (c :: t)
      rw [List.map_cons, List.sum_cons, List.length_take]
      omega
theorem lexS_sum {s : List UInt8} {ts : List Tok} (h : lexS s = (ts, none)) (hs : s.length ≤ 1024) : (ts.map fun x => x.t.length + 20).sum ≤ 21504 := by
  have h1 := toks_sum _ (betw s) (s.drop (betw s)) (Nat.le_refl _)
  have h2 := lexS_len s
  rw [← lexS_eq, h, List.length_drop] at h1
  rw [h] at h2
  have h3 : ∀ l : List Tok, (l.map fun x => x.t.length + 20).sum = (l.map fun x => x.t.length).sum + 20 * l.length := by
    intro l
    induction l with
    | nil => rfl
    | cons x r ih => simp only [List.map_cons, List.sum_cons, List.length_cons, ih]; omega
  rw [h3]
  simp only at h1 h2
  omega
/-- What the law asks. -/
theorem back_is {s : List UInt8} {ts : List Tok} (h : lexS s = (ts, none)) (hp : (parseS ts).2.2 = 0) :
    wt (parseS ts).1 ≤ (ts.map fun x => x.t.length + 20).sum + 20 ∧ ∃ us, lexS (txt (parseS ts).1) = (us, none) ∧ ((parseS us).2.2 = 5 ∨ ((parseS us).2.2 = 0 ∧ sameB (parseS ts).1 (parseS us).1 = true ∧ txt (parseS us).1 = txt (parseS ts).1)) := by
  have hW : WT ts := by have := lexS_whole s; rw [h] at this; exact this
  have he : (progS ts).2.er = 0 := by
    unfold parseS at hp
    by_cases c : (progS ts).2.er = 0
    · exact c
    · rw [if_neg c] at hp; exact hp
  obtain ⟨h1, h2⟩ := prog_y hW he
  have hn : (parseS ts).1 = .mk 1 [] (nextT ts ⟨0, 0⟩).a (progS ts).1 := by unfold parseS; rw [if_pos he]
  rw [hn]
  generalize (progS ts).1 = ks at *
  generalize ((nextT ts ⟨0, 0⟩).a : Int) = a at *
  obtain ⟨f, hf⟩ := pick h1
  refine ⟨?_, ?_⟩
  · rw [wt_mk]
    simp only [List.length_nil]
    omega
  · have ht : txt (.mk 1 [] a ks) = (ks.map f).flatMap fun l => wcat (snd l) ++ [10] := by
      rw [txt_mk]
      have e : nodeT 1 [] (txtL ks) = (txtL ks).flatMap fun s => s ++ [10] := by
        unfold nodeT
        rw [show leastK 1 = some 0 by decide]
        simp
      rw [e, txtL_map, List.flatMap_map, List.flatMap_map]
      clear e hn h2 he hp h h1
      induction ks with
      | nil => rfl
      | cons n r ih => rw [List.flatMap_cons, List.flatMap_cons, (hf n (by simp)).txt, ih (fun x hx => hf x (by simp [hx]))]
    obtain ⟨us, h3, h4⟩ := lex_lines (ls := ks.map f) (fun l hl => by obtain ⟨n, hn, rfl⟩ := List.mem_map.1 hl; exact (hf n hn).whole)
    refine ⟨us, by rw [ht]; exact h3, ?_⟩
    have hA := at_of (pre := []) (l := (ks.map f).flatten) (us := us) (by rw [h4]; rfl)
    have hl : us.length = (ks.map f).flatten.length := by rw [← h4, List.length_map]
    rcases prog_rt (a := a) hf hA hl with c | ⟨c, d⟩
    · exact .inl c
    · exact .inr ⟨c, d, (same_txt d).symm⟩

end Go.Proofs.Ytgndnodahlabiaa
