/-
  Package memory (layer 3): the contract of Copy.
-/
import Derived.Test.YtmpfcplkgkhboaaSet
namespace Go.Proofs.Ytmpfcplkgkhboaa
open Go.ChangeShapes Go.WideShapes Go.ChangeAt Go.RowKit

theorem step_copy {ops : Array Oper} {o : Oper} {a : Act} {w : World} {K : Act → World → Prop} {Q : Exit → Act → World → Prop} {E : Prop} (hgd : o.guard = none) (d s : Operand)
    (ho : o.op = .call { callee := .builtin .copy, args := #[d, s], argTypes := #[44, 44] }) {B R B2 R2 : Nat} {c c2 : List Int} {h f h2 f2 : Int} (m : Mem w B R c h f) (m2 : Mem w B2 R2 c2 h2 f2) (hl : c2.length = c.length) (n : Nat) (hn : c.length = n)
    (hd : a.eval d = .slice (some ⟨R2, 0, none⟩) n n) (hs : a.eval s = .slice (some ⟨R, 0, none⟩) n n)
    (hK : K (a.put o.dst (iv n)) (w.setRow R2 (vals c).toArray)) :
    if Region.wanted o (yielded ops a.tmps) = true then Oper.wp Try.prog o a w K Q else E := by
  have hw : Region.wanted o (yielded ops a.tmps) = true := by simp [Region.wanted, hgd]
  rw [if_pos hw]
  have hrun := run_copy_row (P := Try.prog) w 44 44 o.type 3 R2 0 n n ⟨R, 0, none⟩ n n (vals c2).toArray 3 (vals c) Try.underlying44 (by kernel_rfl) m2.row (by rw [vals_len, hn]; exact (Nat.min_self n).symm)
    (fun j v hj => by
      have hlt : j < (vals c).length := (List.getElem?_eq_some_iff.1 hj).1
      rw [vals_len] at hlt
      have := m.at_ j hlt
      rw [show (⟨R, 0, none⟩ : Addr).add j = ⟨R, j, none⟩ by cases j <;> simp [Addr.add], this]
      simp [vals, hlt] at hj
      simp [hlt, hj]) (by simp [vals_len, hl]) (fun v hv => by obtain ⟨x, _, rfl⟩ := List.mem_map.1 hv; rfl)
  have e1 : (vals c2).toArray.toList.take 0 ++ vals c ++ (vals c2).toArray.toList.drop (0 + (vals c).length) = vals c := by
    simp [vals, hl]
  rw [e1, vals_len, hn] at hrun
  unfold Oper.wp
  simp [execOp, ho, resolve, invoke, builtin, hs, hd, hrun, Result.andThen]
  exact hK

theorem copy_is {w : World} {B R : Nat} {c : List Int} {h f : Int} (m : Mem w B R c h f) :
    Calls Try.prog 17 #[ptr B] w fun e w' => e = .returned (ptr (w.heap.size + 1)) ∧ Below w.heap.size w w' ∧ w'.heap.size = w.heap.size + 2 ∧ Mem w' (w.heap.size + 1) w.heap.size c h f := by
  have k0 := m.c0
  have k1 := m.c1
  have k2 := m.c2
  have b4 := m.cap
  have hB := m.ltB
  have hR := m.ltR
  have hmk := fun w => make_ints c.length (by omega) w
  generalize hn : c.length = n at *
  go_enter Try.func17, Try.ntmps17
  go_wp2
  go_region
  have hb3 : Below w.heap.size w ((w.alloc (.cells (vals (List.replicate n 0)).toArray 3)).alloc (.cells #[.slice (some ⟨w.heap.size, 0, none⟩) n n, iv h, iv f] 48)).drew :=
    (((Below.refl _ w).alloc (Nat.le_refl _) _).alloc (by simp) _).drew
  have hs3 : ((w.alloc (.cells (vals (List.replicate n 0)).toArray 3)).alloc (.cells #[.slice (some ⟨w.heap.size, 0, none⟩) n n, iv h, iv f] 48)).drew.heap.size = w.heap.size + 2 := by simp
  have m3 : Mem ((w.alloc (.cells (vals (List.replicate n 0)).toArray 3)).alloc (.cells #[.slice (some ⟨w.heap.size, 0, none⟩) n n, iv h, iv f] 48)).drew (w.heap.size + 1) w.heap.size (List.replicate n 0) h f := by
    have b3 := m.fn
    refine Mem.drew ⟨?_, ?_, by omega, m.one, m.hf, by simp; omega, by simpa using b4⟩
    · rw [heap_new _ _ (by simp)]; simp
    · rw [Below.heap_alloc _ _ _ (by simp)]; exact heap_new _ _ rfl
  generalize hw3 : ((w.alloc (.cells (vals (List.replicate n 0)).toArray 3)).alloc (.cells #[.slice (some ⟨w.heap.size, 0, none⟩) n n, iv h, iv f] 48)).drew = w3 at *
  have q0 := m3.c0
  simp only [List.length_replicate] at q0
  have mo := m.below hb3 hB hR
  have p0 := mo.c0
  rw [hn] at p0
  have hb4 := below_setRow hb3.drew (Nat.le_refl w.heap.size) (vals c).toArray
  have m4 := m3.drew.setRow (d := c) (by simp [hn])
  have hs4 : (w3.drew.setRow w.heap.size (vals c).toArray).heap.size = w.heap.size + 2 := by simpa using hs3
  generalize hw4 : w3.drew.setRow w.heap.size (vals c).toArray = w4 at *
  have A : Hid (Below w.heap.size w w4 ∧ w4.heap.size = w.heap.size + 2 ∧ Mem w4 (w.heap.size + 1) w.heap.size c h f) := ⟨hb4, hs4, m4⟩
  clear hmk hw3 hs3 hs4 hb4 m4 k0 k1 k2
  go_wp2
  go_region_law (refine step_copy rfl (.tmp 23) (.tmp 27) rfl mo.drew m3.drew (by simp [hn]) n hn rfl rfl ?_; rw [hw4])
  all_goals go_wp2
  all_goals go_ret
  all_goals exact ⟨rfl, A.out⟩
end Go.Proofs.Ytmpfcplkgkhboaa
