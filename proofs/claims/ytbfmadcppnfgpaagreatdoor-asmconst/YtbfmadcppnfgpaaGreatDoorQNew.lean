/-
  Package machine (layer 4): the contract of New.
-/
import Derived.Test.YtbfmadcppnfgpaaGreatDoorQClone
namespace Go.Proofs.YtbfmadcppnfgpaaGreatDoor.Q
open Go.ChangeShapes Go.WideShapes Go.ChangeAt Go.RowKit

/-- A machine that has made no step. -/
def MS.init (n : Nat) (inp : List Int) : MS := ⟨fresh n, [0, 0, 0, 0, 0, 0, 0, 0, 0, 0, 0, 0, 0, 0, (n : Int), 0], 0, inp, [], 0, 0, false⟩
/-- Are all right? -/
def allRight (l : List Ins) : Bool := l.all Ins.right
/-- What New answers of code of at most MaxCode instructions. -/
def newE (l : List Ins) (cells : Int) : Int := if allRight l = false then 1 else if cells < 1 ∨ 1048576 < cells then 1 else 0

theorem not_all {l : List Ins} {k : Nat} (hk : k < l.length) (h : (l[k]).right = false) : allRight l = false := by
  unfold allRight
  rw [List.all_eq_false]
  exact ⟨l[k], List.getElem_mem hk, by simp [h]⟩
theorem all_of {l : List Ins} (h : ∀ j (hj : j < l.length), (l[j]).right = true) : allRight l = true := by
  unfold allRight
  rw [List.all_eq_true]
  intro x hx
  obtain ⟨j, hj, rfl⟩ := List.mem_iff_getElem.1 hx
  exact h j hj

/-- What New leaves. -/
def NewAns (w : World) (l : List Ins) (cells : Int) (inp : List Int) (e : Ending) (w' : World) : Prop :=
  Below w.heap.size w w' ∧ ((newE l cells ≠ 0 ∧ e = .returned (.tuple #[.pointer none, iv (newE l cells)])) ∨
    (newE l cells = 0 ∧ ∃ B F, e = .returned (.tuple #[ptr B, iv 0]) ∧ (∀ k, F k → w.heap.size ≤ k) ∧ Mac w' F B l (MS.init cells.toNat inp)))

theorem made {w w2 w3 w4 : World} {l : List Ins} {inp : List Int} {cv nv : Value} {n R Q B : Nat} (hl : l.length ≤ 200) (hr : allRight l = true)
    (h2 : Below w.heap.size w w2) (hR : w.heap.size ≤ R) (hQ : Q = R + 1) (hs2 : w2.heap.size = R + 2) (m2 : Mem w2 Q R (List.replicate n 0) 1 n)
    (h3 : Below w2.heap.size w2 w3) (c3 : RowAt (New w2 w3) w3 cv l) (h4 : Below w3.heap.size w3 w4) (c4 : IntsAt (New w3 w4) w4 nv inp) (hB : B = w4.heap.size) :
    Mach (w4.alloc (.cells #[cv, ptr Q, iv 0, iv 0, iv 0, iv 0, iv 0, iv 0, iv 0, iv 0, iv 0, iv 0, iv 0, iv 0, iv 0, iv 0, iv n, iv 0, iv 0, nv, .slice none 0 0, iv 0, iv 0, iv 0, iv 0, .bool false] 62)).drew
      (fun k => w.heap.size ≤ k ∧ k < w4.heap.size + 1) (fun k => R + 2 ≤ k ∧ k < w4.heap.size) B Q R cv nv (.slice none 0 0) l (MS.init n inp) 0 0 := by
  subst hB hQ
  have z3 := h3.size
  have z4 := h4.size
  have h24 : Below w2.heap.size w2 w4 := h3.trans (h4.mono z3)
  have hk : ∀ k, k < w4.heap.size → (w4.alloc (.cells #[cv, ptr (R + 1), iv 0, iv 0, iv 0, iv 0, iv 0, iv 0, iv 0, iv 0, iv 0, iv 0, iv 0, iv 0, iv 0, iv 0, iv n, iv 0, iv 0, nv, .slice none 0 0, iv 0, iv 0, iv 0, iv 0, .bool false] 62)).drew.heap[k]? = w4.heap[k]? := fun k hk => Below.heap_alloc _ _ _ hk
  exact
  { obj := heap_new _ _ rfl
    mem := m2.on ((hk _ (by omega)).trans (h24.block _ (by omega))) ((hk _ (by omega)).trans (h24.block _ (by omega)))
    code := (c3.keep (fun k h => (hk k (by omega)).trans (h4.block k h.2))).wide (fun k h => ⟨by omega, by omega⟩)
    inp := (c4.keep (fun k h => hk k h.2)).wide (fun k h => ⟨by omega, by omega⟩)
    out := World.ownsRow_nil _ _ _ _
    fB := ⟨by have := h2.size; omega, by omega⟩
    fQ := ⟨by omega, by omega⟩
    fR := ⟨by omega, by omega⟩
    fO := fun k h => by simp [Value.ownBlock] at h
    fD := fun k h => ⟨⟨by omega, by omega⟩, by omega, by omega, by omega⟩
    lt := fun k h => by simp; omega
    bq := by omega
    br := by omega
    r16 := rfl
    len := by omega
    right := fun x hx => by unfold allRight at hr; exact List.all_eq_true.1 hr x hx }

set_option maxRecDepth 100000 in
set_option maxHeartbeats 2000000 in
theorem new_mac {w : World} {cv nv : Value} {l : List Ins} {inp : List Int} (hc : RowAt (fun k => k < w.heap.size) w cv l) (hi : IntsAt (fun k => k < w.heap.size) w nv inp) (hl : l.length ≤ 200) (hil : inp.length ≤ 1000) (cells : Int) :
    Calls Tryz.prog 8 #[cv, iv cells, nv] w (NewAns w l cells inp) := by
  have hc0 := hc
  obtain ⟨av, cap, rfl, hat⟩ := hc0
  have HAT : Hid (0 < l.length → ∃ blk off, av = some ⟨blk, off, none⟩ ∧ blk < w.heap.size ∧ HasInsts w blk off l) := hat
  have HC : Hid (RowAt (fun k => k < w.heap.size) w (.slice av l.length cap) l) := hc
  have HI : Hid (IntsAt (fun k => k < w.heap.size) w nv inp) := hi
  clear hc hi hat
  generalize hn : l.length = n at *
  have HN : Hid (l.length = n) := hn
  have e0 : ((1048576 : Int) < n) = False := by simp; omega
  clear hn
  go_enter Tryz.func8, Tryz.ntmps8
  go_wp2
  go_loopw [18] (fun i wr => ∃ k : Nat, k ≤ n ∧ i = .int .i64 k ∧ Below w.heap.size w wr ∧ ∀ j (hj : j < l.length), j < k → (l[j]).right = true) (fun i _ => n - (intOf i).toNat)
  case atStart => exact ⟨0, Nat.zero_le _, rfl, Below.refl _ _, fun j _ h => absurd h (Nat.not_lt_zero j)⟩
  case round =>
    obtain ⟨k, hk, rfl, hb, hdone⟩ := hrel
    by_cases hlt : k < n
    · obtain ⟨blk, off, rfl, hblk, hins⟩ := HAT.out (by omega)
      have hkl : k < l.length := by rw [HN.out]; exact hlt
      have hx := (hins k hkl).below hb hblk
      have hbad := not_all hkl
      have hgood : (l[k]).right = true → ∀ j (hj : j < l.length), j < k + 1 → (l[j]).right = true := fun h j hj hjk => by
        by_cases e : j = k
        · subst e; exact h
        · exact hdone j hj (by omega)
      generalize l[k] = x at *
      obtain ⟨o, a, b, c, i⟩ := x
      obtain ⟨c0, c1, c2, c3, c4⟩ := hx
      simp only at c0 c1 c2 c3 c4
      have hbx : Below wr.heap.size wr (wr.alloc (.cells #[iv o, iv a, iv b, iv c, iv i] 31)) := (Below.refl _ wr).alloc (Nat.le_refl _) _
      have hra := right_any o a b c i (wr.alloc (.cells #[iv o, iv a, iv b, iv c, iv i] 31))
      simp only [Ins.right] at hbad hgood
      clear hins hdone
      cases hR : rightB o a b c i with
      | true =>
        rw [hR] at hra
        have hg := hgood hR
        have HG : Hid (∀ j (hj : j < l.length), j < k + 1 → (l[j]).right = true) := hg
        clear hg hgood hbad
        go_wp2_with fail
        refine hra.mono ?_; rintro e w2 ⟨rfl, hb2⟩
        have hB2 := hb.trans ((hbx.trans (hb2.mono hbx.size)).mono hb.size)
        go_wp2_with fail
        go_roundw
        case rel => exact ⟨k + 1, by omega, by go_num, hB2, HG.out⟩
        case measure => simp [intOf]; omega
      | false =>
        rw [hR] at hra
        have hE : newE l cells = 1 := by unfold newE; rw [if_pos (hbad hR)]
        have HE : Hid (newE l cells = 1) := hE
        clear hE hgood hbad
        go_wp2_with fail
        refine hra.mono ?_; rintro e w2 ⟨rfl, hb2⟩
        have hB2 := hb.trans ((hbx.trans (hb2.mono hbx.size)).mono hb.size)
        go_wp2_with fail
        go_ret2
        exact ⟨hB2, .inl ⟨by rw [HE.out]; decide, by rw [HE.out]; rfl⟩⟩
    · have hall : allRight l = true := all_of (fun j hj => hdone j hj (by rw [HN.out] at hj; omega))
      by_cases hcl : cells < 1 ∨ 1048576 < cells
      · have HE : Hid (newE l cells = 1) := by
          show newE l cells = 1
          unfold newE; rw [if_neg (by simp [hall]), if_pos hcl]
        go_wp2_with fail
        refine (new_no cells hcl _).mono ?_; rintro e w2 ⟨rfl, rfl⟩
        clear hcl
        go_wp2_with fail
        go_ret2
        exact ⟨hb, .inl ⟨by rw [HE.out]; decide, by rw [HE.out]; rfl⟩⟩
      · have HE : Hid (newE l cells = 0) := by
          show newE l cells = 0
          unfold newE; rw [if_neg (by simp [hall]), if_neg hcl]
        obtain ⟨N, rfl⟩ : ∃ N : Nat, cells = N := ⟨cells.toNat, by omega⟩
        have hz1 := hb.size
        have hnw := new_is N (by omega) (by omega) wr
        have hNb : N ≤ 1048576 := by omega
        clear hcl
        go_wp2_with fail
        refine hnw.mono ?_; rintro e w2 ⟨rfl, hb2, hs2, m2⟩
        have hB2 := hb.trans (hb2.mono hz1)
        have hz2 := hB2.size
        have hcl := clone_rows (HC.out.keep (W' := w2) (fun k hk => hB2.block k hk)) (fun k hk => by omega) (by rw [HN.out]; omega)
        go_wp2_with fail
        refine hcl.mono ?_; rintro e w3 ⟨v3, rfl, hb3, r3⟩
        obtain ⟨sp3, cp3, e3, _⟩ := id r3
        rw [HN.out] at e3
        subst e3
        have hB3 := hB2.trans (hb3.mono hz2)
        have hz3 := hB3.size
        have hci := clone_ints (HI.out.keep (W' := w3) (fun k hk => hB3.block k hk)) (fun k hk => by omega) (by omega)
        go_wp2_with fail
        refine hci.mono ?_; rintro e w4 ⟨v4, rfl, hb4, r4⟩
        obtain ⟨sp4, cp4, e4, _⟩ := id r4
        subst e4
        have hB4 := hB3.trans (hb4.mono hz3)
        have hz4 := hB4.size
        have zz3 := hb3.size
        have zz4 := hb4.size
        have mk := made (w := w) (by rw [HN.out]; exact hl) hall hB2 hz1 rfl hs2 m2 hb3 r3 hb4 r4 rfl
        have m4 := (m2.below hb3 (by omega) (by omega)).below hb4 (by omega) (by omega)
        have m5 := (m4.below ((Below.refl w4.heap.size w4).alloc (Nat.le_refl _) (.cells #[.slice sp3 n cp3, ptr (wr.heap.size + 1), iv 0, iv 0, iv 0, iv 0, iv 0, iv 0, iv 0, iv 0, iv 0, iv 0, iv 0, iv 0, iv 0, iv 0, iv 0, iv 0, iv 0, .slice sp4 inp.length cp4, .slice none 0 0, iv 0, iv 0, iv 0, iv 0, .bool false] 62)) (by omega) (by omega)).drew
        have hfl := floor_is m5
        have MK : Hid (Mac (w4.alloc (.cells #[.slice sp3 n cp3, ptr (wr.heap.size + 1), iv 0, iv 0, iv 0, iv 0, iv 0, iv 0, iv 0, iv 0, iv 0, iv 0, iv 0, iv 0, iv 0, iv 0, iv N, iv 0, iv 0, .slice sp4 inp.length cp4, .slice none 0 0, iv 0, iv 0, iv 0, iv 0, .bool false] 62)).drew (fun k => w.heap.size ≤ k ∧ k < w4.heap.size + 1) w4.heap.size l (MS.init N inp)) := mk.mac
        have BK : Hid (Below w.heap.size w (w4.alloc (.cells #[.slice sp3 n cp3, ptr (wr.heap.size + 1), iv 0, iv 0, iv 0, iv 0, iv 0, iv 0, iv 0, iv 0, iv 0, iv 0, iv 0, iv 0, iv 0, iv 0, iv N, iv 0, iv 0, .slice sp4 inp.length cp4, .slice none 0 0, iv 0, iv 0, iv 0, iv 0, .bool false] 62)).drew) := (hB4.alloc hz4 _).drew
        clear mk m4 m5
        go_wp2_with fail
        go_region_with (go_at_call 23; refine hfl.mono ?_; rintro e w5 ⟨rfl, rfl⟩)
        all_goals go_wp2
        all_goals go_ret2
        all_goals exact ⟨BK.out, .inr ⟨HE.out, w4.heap.size, (fun k => w.heap.size ≤ k ∧ k < w4.heap.size + 1), rfl, fun _ h => h.1, by simpa using MK.out⟩⟩

end Go.Proofs.YtbfmadcppnfgpaaGreatDoor.Q
