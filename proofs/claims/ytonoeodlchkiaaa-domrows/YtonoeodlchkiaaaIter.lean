/-
  The iterators of package graph (layer 6): over edges, and over blocks as they are left.
-/
import Derived.Test.YtonoeodlchkiaaaBase
namespace Go.Proofs.Ytonoeodlchkiaaa
open Go.ChangeShapes Go.WideShapes Go.ChangeAt Go.RowKit Go.Shelf

attribute [local go_sem] Oper.semAt_some

/-- The edges of the first i blocks, and the first k of the next. -/
def edgI (g : List (List Int)) (i k : Nat) : List (Nat × Int) := ((List.range i).flatMap fun j => (g.getD j []).map fun t => (j, t)) ++ ((g.getD i []).take k).map fun t => (i, t)
theorem edgI_zero (g : List (List Int)) : edgI g 0 0 = [] := by simp [edgI]
theorem edgI_next (g : List (List Int)) (i k : Nat) (hk : (g.getD i []).length ≤ k) : edgI g i k = edgI g (i + 1) 0 := by
  unfold edgI
  rw [outs_range, List.take_of_length_le hk]; simp
theorem getD_int (l : List Int) (k : Nat) (h : k < l.length) : l.getD k 0 = l[k]'h := by
  rw [List.getD_eq_getElem?_getD, List.getElem?_eq_getElem h]; rfl
theorem edgI_succ (g : List (List Int)) (i k : Nat) (hk : k < (g.getD i []).length) : edgI g i (k + 1) = edgI g i k ++ [(i, (g.getD i []).getD k 0)] := by
  unfold edgI
  rw [List.take_succ_eq_append_getElem hk, List.map_append, List.append_assoc, getD_int _ _ hk]; rfl

abbrev encE (x : Nat × Int) : Array Value := #[.int .i64 (x.1 : Int), .int .i64 x.2]
/-- What may come behind some edges. -/
def nextE (g : List (List Int)) (s : List (Nat × Int)) (x : Nat × Int) : Prop := ∃ i k, i < g.length ∧ k < (g.getD i []).length ∧ s = edgI g i k ∧ x = (i, (g.getD i []).getD k 0)

set_option maxRecDepth 100000 in
set_option maxHeartbeats 2000000 in
theorem edges_gives (Bl blk off cap : Nat) (hd : Nat → Hdr) (g : List (List Int)) (av : Option Addr) (hl : g.length ≤ 1000000000000) (hr : ∀ b, (g.getD b []).length ≤ 1000000000000) (W1 : World) (L : Nat) (hB : W1.cell? ⟨Bl, 0, none⟩ = some (.slice av g.length cap))
    : Gives 50 #[.pointer (some ⟨Bl, 0, none⟩)] encE (fun _ => False) (fun W => GAt W av blk off hd g) (nextE g) (fun s _ => s = edgI g g.length 0) W1 L 0 := by
  intro J Jx htu hsz hrd hY h0
  have HY : Hid (∀ s x W, J s W → nextE g s x → YieldAt Fence.wide 0 Try.prog L (encE x) W fun e W' => (e = .returned (.bool true) ∧ J (s ++ [x]) W') ∨ (e = .returned (.bool false) ∧ Jx W')) := fun s x W hJ hx => (hY s x W hJ hx (hsz s W hJ)).mono fun e W' h => h.imp (fun h => ⟨h.1, h.2.1⟩) id
  have HRD : Hid (∀ s W, J s W → GAt W av blk off hd g) := hrd
  have HR : Hid (∀ b, (g.getD b []).length ≤ 1000000000000) := hr
  clear hY hrd hr htu hsz
  refine callsIn_of_wp Try.func50 rfl trivial ?_ rfl
  simp only [Try.ntmps50, List.size_toArray, List.length_cons, List.length_nil, Nat.reduceAdd, Nat.reduceSub, Array.replicate_succ, Array.replicate_zero, List.push_toArray, List.append_toArray, List.nil_append, List.cons_append]
  gi_wp2
  gi_loopw [9] (fun i wr => ∃ k : Nat, i = .int .i64 k ∧ k ≤ g.length ∧ J (edgI g k 0) wr) (fun i _ => g.length - (intOf i).toNat)
  case atStart => exact ⟨0, rfl, Nat.zero_le _, by rw [edgI_zero]; exact h0⟩
  case round =>
    obtain ⟨k, rfl, hk, hJ⟩ := hrel
    clear hB h0
    by_cases hlt : k < g.length
    · have hG := HRD.out _ _ hJ
      obtain rfl := hG.at_ (by omega)
      have e1 : ((k : Int) < (g.length : Int)) = True := by simp; omega
      have c1 := hG.has k hlt
      have hrl := HR.out k
      have hat := hG.rat k hlt
      have HL : Hid (k < g.length) := hlt
      have HK : Hid (g.length ≤ 1000000000000) := hl
      have HE : Hid (∀ j, j < (g.getD k []).length → edgI g k (j + 1) = edgI g k j ++ [(k, (g.getD k []).getD j 0)]) := fun j hj => edgI_succ g k j hj
      have HN : Hid (∀ j, (g.getD k []).length ≤ j → edgI g k j = edgI g (k + 1) 0) := fun j hj => edgI_next g k j hj
      have HX : Hid (∀ j, j < (g.getD k []).length → nextE g (edgI g k j) (k, (g.getD k []).getD j 0)) := fun j hj => ⟨k, j, hlt, hj, rfl, rfl⟩
      have HH : Hid (∀ W s, J s W → ∀ j, j < (g.getD k []).length → W.cell? ⟨(hd k).blk, (hd k).off + j, none⟩ = some (.int .i64 ((g.getD k []).getD j 0))) := fun W s hJ j hj => (HRD.out _ _ hJ).rhas k j hlt hj
      clear hG
      generalize hrow : g.getD k [] = row at *
      clear hrow
      generalize hn : row.length = n at *
      have HLN : Hid (row.length = n) := hn
      clear hn
      gi_wp2
      gi_loopw [16] (fun i wr => ∃ j : Nat, i = .int .i64 j ∧ j ≤ n ∧ J (edgI g k j) wr) (fun i _ => n - (intOf i).toNat)
      case atStart => exact ⟨0, rfl, Nat.zero_le _, hJ⟩
      case round =>
        obtain ⟨j, rfl, hj, hJ2⟩ := hrel
        by_cases hlt2 : j < n
        · have e2 : ((j : Int) < (n : Int)) = True := by simp; omega
          have hc := HH.out _ _ hJ2 j hlt2
          obtain ⟨fn, tmps, assign, body, hy, hR⟩ := HY.out _ _ _ hJ2 (HX.out j hlt2)
          have hav := hat (by omega)
          have hE : Hid (edgI g k (j + 1) = edgI g k j ++ [(k, row.getD j 0)]) := HE.out j hlt2
          generalize row.getD j 0 = x at *
          simp only [hav]
          gi_wp2
          refine ⟨rfl, hR.mono ?_⟩
          rintro e W3 (⟨rfl, hJ3⟩ | ⟨rfl, hJx3⟩)
          · clear hR hy hc c1
            gi_wp2
            exact ⟨⟨j + 1, by go_num, hlt2, by rw [hE.out]; exact hJ3⟩, by simp [intOf]; omega⟩
          · gi_wp2
            refine bodyPost_ret (results_none rfl _ _ _) rfl ?_
            exact ⟨⟨_, rfl⟩, .inr hJx3⟩
        · have e2 : ((j : Int) < (n : Int)) = False := by simp; omega
          have hl' := HK.out
          gi_wp2
          exact ⟨⟨k + 1, by go_num, HL.out, by rw [← HN.out j (by omega)]; exact hJ2⟩, by simp [intOf]; omega⟩
    · have e1 : ((k : Int) < (g.length : Int)) = False := by simp; omega
      gi_wp2
      go_end0
      obtain rfl : k = g.length := by omega
      exact ⟨⟨_, rfl⟩, .inl ⟨_, rfl, hJ⟩⟩

/- Blocks, as they are left. -/
def castG (g : List (List Nat)) : List (List Int) := g.map fun r => r.map fun n : Nat => (n : Int)
theorem castG_len (g : List (List Nat)) : (castG g).length = g.length := by simp [castG]
theorem castG_at (g : List (List Nat)) (b : Nat) : (castG g).getD b [] = (g.getD b []).map fun n : Nat => (n : Int) := by
  unfold castG
  rw [List.getD_eq_getElem?_getD, List.getD_eq_getElem?_getD, List.getElem?_map]
  cases g[b]? <;> simp
theorem cast_at (r : List Nat) (k : Nat) : (r.map fun n : Nat => (n : Int)).getD k 0 = ((r.getD k 0 : Nat) : Int) := by
  rw [List.getD_eq_getElem?_getD, List.getD_eq_getElem?_getD, List.getElem?_map]
  cases r[k]? <;> simp
/-- A row of flags, as a block. -/
abbrev flagsO (m : List Bool) : Obj := .cells (m.map Value.bool).toArray 4 (0, 0)

theorem take_next (row : List Nat) (j : Nat) (hj : j < row.length) : row.take (j + 1) = row.take j ++ [row.getD j 0] := by
  rw [List.take_succ_eq_append_getElem hj, List.getD_eq_getElem?_getD, List.getElem?_eq_getElem hj]; rfl
/-- How many are not met. -/
def unmetN (m : List Bool) : Nat := m.countP fun b => !b
theorem unmetN_set (m : List Bool) (b : Nat) (h : m[b]? = some false) : unmetN (m.set b true) + 1 = unmetN m := by
  unfold unmetN
  induction m generalizing b with
  | nil => simp at h
  | cons x r ih =>
    cases b with
    | zero => simp at h; subst h; simp
    | succ b =>
      have := ih b (by simpa using h)
      simp only [List.set_cons_succ, List.countP_cons]; omega
theorem Walk.count {g : List (List Nat)} {T : List Nat} {m m' : List Bool} {o : List Nat} (h : Walk g T m m' o) : o.length + unmetN m' = unmetN m := by
  induction h with
  | nil m => simp
  | skip _ _ ih => exact ih
  | go hb _ _ ih1 ih2 => have := unmetN_set _ _ hb; simp only [List.length_append, List.length_cons]; omega
theorem unmetN_le_len (m : List Bool) : unmetN m ≤ m.length := List.countP_le_length
theorem Walk.unmetN_le {g : List (List Nat)} {T : List Nat} {m m' : List Bool} {o : List Nat} (h : Walk g T m m' o) : unmetN m' ≤ unmetN m := by
  induction h with
  | nil m => exact Nat.le_refl _
  | skip _ _ ih => exact ih
  | go hb _ _ ih1 ih2 => have := unmetN_set _ _ hb; omega

/-- What a walk over blocks leans on. -/
structure VS (av : Option Addr) (blk off cap : Nat) (hd : Nat → Hdr) (g : List (List Nat)) (M Bm Bg Bv By L : Nat) (m : List Bool) (W : World) : Prop where
  len : m.length = g.length
  bm : W.heap[Bm]? = some (.cells #[.slice (some ⟨M, 0, none⟩) g.length g.length] 34 (0, 0))
  bg : W.heap[Bg]? = some (.cells #[.slice av g.length cap] 22 (0, 0))
  bv : W.heap[Bv]? = some (.cells #[.func (.func 52) #[] #[.pointer (some ⟨Bm, 0, none⟩), .pointer (some ⟨Bg, 0, none⟩), .pointer (some ⟨Bv, 0, none⟩), .pointer (some ⟨By, 0, none⟩)]] 62 (0, 0))
  by_ : W.heap[By]? = some (.cells #[.func (.yield L) #[] #[]] 62 (0, 0))
  met : W.heap[M]? = some (flagsO m)
theorem cell_of {W : World} {B : Nat} {cs : Array Value} {t : TypeId} (h : W.heap[B]? = some (.cells cs t (0, 0))) (o : Nat) : W.cell? ⟨B, o, none⟩ = cs[o]? := by simp [World.cell?, h]
theorem frozen_of {W : World} {B : Nat} {cs : Array Value} {t : TypeId} (h : W.heap[B]? = some (.cells cs t (0, 0))) (o : Nat) : W.frozen? ⟨B, o, none⟩ = false := by simp [World.frozen?, h]
theorem lt_of {W : World} {B : Nat} {o : Obj} (h : W.heap[B]? = some o) : B < W.heap.size := (Array.getElem?_eq_some_iff.1 h).1
theorem set_flags {W : World} {M : Nat} {m : List Bool} (h : W.heap[M]? = some (flagsO m)) (b : Nat) (v : Bool) : (W.setCell ⟨M, b, none⟩ (.bool v)).heap[M]? = some (flagsO (m.set b v)) := by
  unfold World.setCell flagsO
  rw [List.map_set, Array.getElem?_modify, if_pos rfl, h]
  simp

set_option maxRecDepth 100000 in
set_option maxHeartbeats 2000000 in
theorem visit_is (av : Option Addr) (blk off cap : Nat) (hd : Nat → Hdr) (g : List (List Nat)) (hgr : Okay g) (M Bm Bg Bv By L : Nat) (hne : M ≠ Bm ∧ M ≠ Bg ∧ M ≠ Bv ∧ M ≠ By) (P : Nat → Prop) (hP : P M ∧ P Bm ∧ P Bg ∧ P Bv ∧ P By)
    (C : Nat) (J : List Nat → World → Prop) (htu : ∀ s W W', J s W → Turns P W W' → J s W') (hrd : ∀ s W, J s W → GAt W av blk off hd (castG g)) (Jx : World → Prop)
    (hY : ∀ s x W, J s W → x < g.length → s.length < C → YieldAt Fence.wide 0 Try.prog L #[.int .i64 ((x : Nat) : Int)] W fun e W' => (e = .returned (.bool true) ∧ J (s ++ [x]) W' ∧ W.heap.size ≤ W'.heap.size ∧ ∀ b, P b → W'.heap[b]? = W.heap[b]?) ∨ (e = .returned (.bool false) ∧ Jx W')) :
    ∀ (c : Nat) (m : List Bool) (b : Nat) (s : List Nat) (W : World), unmetN m < c → s.length + unmetN m ≤ C → b < g.length → J s W → VS av blk off cap hd g M Bm Bg Bv By L m W →
      CallsIn Fence.wide 0 Try.prog 52 #[.int .i64 (b : Int), .pointer (some ⟨Bm, 0, none⟩), .pointer (some ⟨Bg, 0, none⟩), .pointer (some ⟨Bv, 0, none⟩), .pointer (some ⟨By, 0, none⟩)] W fun e W' =>
        (e = .returned (.bool true) ∧ ∃ m' o, Walk g [b] m m' o ∧ J (s ++ o) W' ∧ VS av blk off cap hd g M Bm Bg Bv By L m' W') ∨ (e = .returned (.bool false) ∧ Jx W') := by
  intro c
  induction c with
  | zero => intro m b s W h; exact absurd h (Nat.not_lt_zero _)
  | succ c ih =>
    intro m b s W hc hC hb hJ hV
    have HY : Hid (∀ s x W, J s W → x < g.length → s.length < C → YieldAt Fence.wide 0 Try.prog L #[.int .i64 ((x : Nat) : Int)] W fun e W' => (e = .returned (.bool true) ∧ J (s ++ [x]) W' ∧ W.heap.size ≤ W'.heap.size ∧ ∀ b, P b → W'.heap[b]? = W.heap[b]?) ∨ (e = .returned (.bool false) ∧ Jx W')) := hY
    have IH : Hid (∀ (m : List Bool) (b : Nat) (s : List Nat) (W : World), unmetN m < c → s.length + unmetN m ≤ C → b < g.length → J s W → VS av blk off cap hd g M Bm Bg Bv By L m W →
      CallsIn Fence.wide 0 Try.prog 52 #[.int .i64 (b : Int), .pointer (some ⟨Bm, 0, none⟩), .pointer (some ⟨Bg, 0, none⟩), .pointer (some ⟨Bv, 0, none⟩), .pointer (some ⟨By, 0, none⟩)] W fun e W' =>
        (e = .returned (.bool true) ∧ ∃ m' o, Walk g [b] m m' o ∧ J (s ++ o) W' ∧ VS av blk off cap hd g M Bm Bg Bv By L m' W') ∨ (e = .returned (.bool false) ∧ Jx W')) := ih
    have HRD : Hid (∀ s W, J s W → GAt W av blk off hd (castG g)) := hrd
    have HTU : Hid (∀ s W W', J s W → Turns P W W' → J s W') := htu
    clear hY ih hrd htu
    have hlen := hV.len
    obtain ⟨v, hv⟩ : ∃ v, m[b]? = some v := ⟨_, List.getElem?_eq_getElem (by omega)⟩
    have c1 : W.cell? ⟨Bm, 0, none⟩ = some (.slice (some ⟨M, 0, none⟩) g.length g.length) := cell_of hV.bm 0
    have c2 : W.cell? ⟨M, b, none⟩ = some (.bool v) := by rw [cell_of hV.met]; simp [hv]
    have hbi : ((b : Int) < (g.length : Int)) = True := by simp; omega
    have hbl : b ≤ 4096 := by have := hgr.most; omega
    refine callsIn_of_wp Try.func52 rfl trivial ?_ rfl
    simp only [Try.ntmps52, List.size_toArray, List.length_cons, List.length_nil, Nat.reduceAdd, Nat.reduceSub, Array.replicate_succ, Array.replicate_zero, List.push_toArray, List.append_toArray, List.nil_append, List.cons_append]
    cases v with
    | true =>
      gi_wp2
      go_ret
      exact .inl ⟨rfl, m, [], .skip hv (.nil m), by simpa using hJ, hV⟩
    | false =>
      have f2 := frozen_of hV.met b
      have c3 : W.cell? ⟨Bg, 0, none⟩ = some (.slice av g.length cap) := cell_of hV.bg 0
      have n1 := hne.1
      have n2 := hne.2.1
      have hJ2 := HTU.out s _ _ hJ (Turns.setCell W ⟨M, b, none⟩ (.bool true) hP.1)
      have hV2 : VS av blk off cap hd g M Bm Bg Bv By L (m.set b true) (W.setCell ⟨M, b, none⟩ (.bool true)) :=
        ⟨by simpa using hlen, (Below.heap_setCell W _ _ Bm (fun e => hne.1 e.symm)).trans hV.bm, (Below.heap_setCell W _ _ Bg (fun e => hne.2.1 e.symm)).trans hV.bg, (Below.heap_setCell W _ _ Bv (fun e => hne.2.2.1 e.symm)).trans hV.bv, (Below.heap_setCell W _ _ By (fun e => hne.2.2.2 e.symm)).trans hV.by_, set_flags hV.met b true⟩
      have hG2 := HRD.out _ _ hJ2
      have hbc : b < (castG g).length := by rw [castG_len]; exact hb
      have d1 : (W.setCell ⟨M, b, none⟩ (.bool true)).cell? ⟨blk, off + b, none⟩ = some (.slice (hd b).av (g.getD b []).length (hd b).cap) := by
        have := hG2.has b hbc; rwa [castG_at, List.length_map] at this
      have hav := hG2.at_ (by omega)
      subst hav
      have hat : 0 < (g.getD b []).length → (hd b).av = some ⟨(hd b).blk, (hd b).off, none⟩ := by
        have := hG2.rat b hbc; rwa [castG_at, List.length_map] at this
      have d0 : (W.setCell ⟨M, b, none⟩ (.bool true)).cell? ⟨Bg, 0, none⟩ = some (.slice (some ⟨blk, off, none⟩) g.length cap) := cell_of hV2.bg 0
      have hcu := unmetN_set m b hv
      have hr8 := hgr.rows b
      have HC : Hid (∀ W s, J s W → ∀ j, j < (g.getD b []).length → W.cell? ⟨(hd b).blk, (hd b).off + j, none⟩ = some (.int .i64 (((g.getD b []).getD j 0 : Nat) : Int))) := fun W s hJ j hj => by
        have := (HRD.out _ _ hJ).rhas b j hbc (by rw [castG_at, List.length_map]; exact hj)
        rwa [castG_at, cast_at] at this
      have HT : Hid (∀ j, j < (g.getD b []).length → (g.getD b []).getD j 0 < g.length) := fun j hj => hgr.lt b _ (getD_mem _ _ hj)
      have HS : Hid (∀ j, j < (g.getD b []).length → (g.getD b []).take (j + 1) = (g.getD b []).take j ++ [(g.getD b []).getD j 0]) := fun j hj => take_next _ j hj
      have HG : Hid (∀ m1 o1, Walk g (g.getD b []) (m.set b true) m1 o1 → Walk g [b] m m1 (o1 ++ [b])) := fun m1 o1 h => .go hv h (.nil m1)
      have HV : Hid (VS (some ⟨blk, off, none⟩) blk off cap hd g M Bm Bg Bv By L m W) := hV
      have HM : Hid (m[b]? = some false) := hv
      clear hG2 hbc hV hv
      generalize hrow : g.getD b [] = row at *
      clear hrow
      generalize hn : row.length = n at *
      have HLN : Hid (row.length = n) := hn
      clear hn
      gi_wp2
      gi_loopw [21] (fun i wr => ∃ j : Nat, i = .int .i64 j ∧ j ≤ n ∧ ∃ m1 o1, Walk g (row.take j) (m.set b true) m1 o1 ∧ J (s ++ o1) wr ∧ VS (some ⟨blk, off, none⟩) blk off cap hd g M Bm Bg Bv By L m1 wr) (fun i _ => n - (intOf i).toNat)
      case atStart => exact ⟨0, rfl, Nat.zero_le _, m.set b true, [], by simpa using Walk.nil _, by simpa using hJ2, hV2⟩
      case round =>
        obtain ⟨j, rfl, hj, m1, o1, hw1, hJ1, hV1⟩ := hrel
        clear c1 c2 c3 d0 d1 hJ hJ2 hV2
        by_cases hlt : j < n
        · have e2 : ((j : Int) < (n : Int)) = True := by simp; omega
          have hcl := HC.out _ _ hJ1 j hlt
          have hav := hat (by omega)
          have hx := HT.out j hlt
          have hs := HS.out j hlt
          have hun := hw1.unmetN_le
          have hct := hw1.count
          have HW : Hid (Walk g (row.take j) (m.set b true) m1 o1) := hw1
          have HA : Hid (row.take (j + 1) = row.take j ++ [row.getD j 0]) := hs
          have cv : wr.cell? ⟨Bv, 0, none⟩ = some (.func (.func 52) #[] #[.pointer (some ⟨Bm, 0, none⟩), .pointer (some ⟨Bg, 0, none⟩), .pointer (some ⟨Bv, 0, none⟩), .pointer (some ⟨By, 0, none⟩)]) := cell_of hV1.bv 0
          clear hs hw1
          have key := IH.out m1 (row.getD j 0) (s ++ o1) wr (by omega) (by rw [List.length_append]; omega) hx hJ1 hV1
          generalize row.getD j 0 = x at *
          simp only [hav]
          gi_wp2
          refine ⟨trivial, rfl, key.mono ?_⟩
          rintro e W3 (⟨rfl, m3, o3, hw3, hJ3, hV3⟩ | ⟨rfl, hJx⟩)
          · clear key cv hcl
            gi_wp2
            refine ⟨⟨j + 1, by go_num, hlt, m3, o1 ++ o3, ?_, by rw [← List.append_assoc]; exact hJ3, hV3⟩, by simp [intOf]; omega⟩
            rw [HA.out]; exact HW.out.append hw3
          · gi_wp2
            go_ret
            exact .inr ⟨rfl, hJx⟩
        · have e2 : ((j : Int) < (n : Int)) = False := by simp; omega
          rw [List.take_of_length_le (by rw [HLN.out]; omega)] at hw1
          have hfin := HG.out m1 o1 hw1
          have hct := hw1.count
          obtain ⟨fn, tmps, assign, body, hy, hR⟩ := HY.out _ b _ hJ1 hb (by rw [List.length_append]; omega)
          have cy : wr.cell? ⟨By, 0, none⟩ = some (.func (.yield L) #[] #[]) := cell_of hV1.by_ 0
          gi_wp2
          refine ⟨rfl, hR.mono ?_⟩
          rintro e W3 (⟨rfl, hJ3, hs3, hk3⟩ | ⟨rfl, hJx3⟩)
          · gi_wp2
            go_ret
            exact .inl ⟨rfl, m1, o1 ++ [b], hfin, by rw [← List.append_assoc]; exact hJ3, hV1.len, (hk3 Bm hP.2.1).trans hV1.bm, (hk3 Bg hP.2.2.1).trans hV1.bg, (hk3 Bv hP.2.2.2.1).trans hV1.bv, (hk3 By hP.2.2.2.2).trans hV1.by_, (hk3 M hP.1).trans hV1.met⟩
          · gi_wp2
            go_ret
            exact .inr ⟨rfl, hJx3⟩

end Go.Proofs.Ytonoeodlchkiaaa
