/-
  Memory (layer 3): how a memory lies, and the contracts of package memory's functions.
-/
import Derived.Test.YtbfmadcppnfgpaaGreatDoorChecked
import Derived.WalkKit
import Derived.ProofKit
import Derived.OpenShut
import Derived.Laws.CopyOwn
import Derived.Laws.MakeOwn
import Derived.Laws.OwnMore
import Derived.BigQuiet
namespace Go.Proofs.YtbfmadcppnfgpaaGreatDoor.Q
open Go.ChangeShapes Go.WideShapes Go.ChangeAt Go.RowKit

/-- Two blocks alone may have turned, none has come or gone. -/
structure Touch (B R : Nat) (w w' : World) : Prop where
  os : w'.os = w.os
  tape : w'.tape = w.tape
  output : w'.output = w.output
  size : w'.heap.size = w.heap.size
  block : ∀ k, k ≠ B → k ≠ R → w'.heap[k]? = w.heap[k]?

theorem Touch.refl (B R : Nat) (w : World) : Touch B R w w := ⟨rfl, rfl, rfl, rfl, fun _ _ _ => rfl⟩
theorem Touch.trans {B R : Nat} {a b c : World} (h : Touch B R a b) (k : Touch B R b c) : Touch B R a c :=
  ⟨k.os.trans h.os, k.tape.trans h.tape, k.output.trans h.output, k.size.trans h.size, fun i h1 h2 => (k.block i h1 h2).trans (h.block i h1 h2)⟩
theorem Touch.drew {B R : Nat} {a w : World} (h : Touch B R a w) : Touch B R a w.drew := ⟨h.os, h.tape, h.output, h.size, h.block⟩
theorem Touch.setCell {B R : Nat} {a w : World} (h : Touch B R a w) {p : Addr} (hp : p.block = B ∨ p.block = R) (u : Value) : Touch B R a (w.setCell p u) :=
  h.trans ⟨rfl, rfl, rfl, by simp [World.setCell], fun k h1 h2 => Below.heap_setCell _ _ _ _ (by rcases hp with e | e <;> rw [e] <;> assumption)⟩
theorem Touch.setRow {B R : Nat} {a w : World} (h : Touch B R a w) {g : Nat} (hp : g = B ∨ g = R) (cs : Array Value) : Touch B R a (w.setRow g cs) :=
  h.trans ⟨rfl, rfl, rfl, by simp, fun k h1 h2 => setRow_other w g k cs (by rcases hp with e | e <;> rw [e] <;> assumption)⟩
theorem Touch.below {B R N : Nat} {w w' : World} (h : Touch B R w w') (h1 : N ≤ B) (h2 : N ≤ R) : Below N w w' :=
  ⟨h.os, h.tape, h.output, Nat.le_of_eq h.size.symm, fun k hk => h.block k (by omega) (by omega)⟩

abbrev iv (n : Int) : Value := .int .i64 n
abbrev ptr (B : Nat) : Value := .pointer (some ⟨B, 0, none⟩)
def vals (c : List Int) : List Value := c.map iv
theorem vals_len (c : List Int) : (vals c).length = c.length := by simp [vals]

/-- A memory that lies in block B, its row in block R: the cells c, the heap's end h, the floor f. -/
structure Mem (w : World) (B R : Nat) (c : List Int) (h f : Int) : Prop where
  obj : w.heap[B]? = some (.cells #[.slice (some ⟨R, 0, none⟩) c.length c.length, iv h, iv f] 91 (0, 0))
  row : w.heap[R]? = some (.cells (vals c).toArray 3 (0, 0))
  ne : B ≠ R
  one : 1 ≤ h
  hf : h ≤ f
  fn : f ≤ c.length
  cap : c.length ≤ 1048576

namespace Mem

theorem c0 {w : World} {B R : Nat} {c : List Int} {h f : Int} (m : Mem w B R c h f) : w.cell? ⟨B, 0, none⟩ = some (.slice (some ⟨R, 0, none⟩) c.length c.length) := by simp [World.cell?, m.obj]
theorem c1 {w : World} {B R : Nat} {c : List Int} {h f : Int} (m : Mem w B R c h f) : w.cell? ⟨B, 1, none⟩ = some (iv h) := by simp [World.cell?, m.obj]
theorem c2 {w : World} {B R : Nat} {c : List Int} {h f : Int} (m : Mem w B R c h f) : w.cell? ⟨B, 2, none⟩ = some (iv f) := by simp [World.cell?, m.obj]
theorem fr {w : World} {B R : Nat} {c : List Int} {h f : Int} (m : Mem w B R c h f) (o : Nat) : w.frozen? ⟨B, o, none⟩ = false := by simp [World.frozen?, m.obj]
theorem frR {w : World} {B R : Nat} {c : List Int} {h f : Int} (m : Mem w B R c h f) (o : Nat) : w.frozen? ⟨R, o, none⟩ = false := by simp [World.frozen?, m.row]
theorem at_ {w : World} {B R : Nat} {c : List Int} {h f : Int} (m : Mem w B R c h f) (k : Nat) (hk : k < c.length) : w.cell? ⟨R, k, none⟩ = some (iv (c.getD k 0)) := by
  simp [World.cell?, m.row, vals, hk]
theorem ltB {w : World} {B R : Nat} {c : List Int} {h f : Int} (m : Mem w B R c h f) : B < w.heap.size := (Array.getElem?_eq_some_iff.1 m.obj).1
theorem ltR {w : World} {B R : Nat} {c : List Int} {h f : Int} (m : Mem w B R c h f) : R < w.heap.size := (Array.getElem?_eq_some_iff.1 m.row).1
theorem on {w w' : World} {B R : Nat} {c : List Int} {h f : Int} (m : Mem w B R c h f) (hB : w'.heap[B]? = w.heap[B]?) (hR : w'.heap[R]? = w.heap[R]?) : Mem w' B R c h f :=
  { m with obj := hB.trans m.obj, row := hR.trans m.row }
theorem drew {w : World} {B R : Nat} {c : List Int} {h f : Int} (m : Mem w B R c h f) : Mem w.drew B R c h f := m.on rfl rfl
theorem below {w w' : World} {B R : Nat} {c : List Int} {h f : Int} {N : Nat} (m : Mem w B R c h f) (hb : Below N w w') (h1 : B < N) (h2 : R < N) : Mem w' B R c h f := m.on (hb.block _ h1) (hb.block _ h2)
theorem touch {w w' : World} {B R : Nat} {c : List Int} {h f : Int} {B2 R2 : Nat} (m : Mem w B R c h f) (ht : Touch B2 R2 w w') (h1 : B ≠ B2) (h2 : B ≠ R2) (h3 : R ≠ B2) (h4 : R ≠ R2) : Mem w' B R c h f :=
  m.on (ht.block _ h1 h2) (ht.block _ h3 h4)
theorem setH {w : World} {B R : Nat} {c : List Int} {h f : Int} (m : Mem w B R c h f) {x : Int} (h1 : 1 ≤ x) (h2 : x ≤ f) : Mem (w.setCell ⟨B, 1, none⟩ (iv x)) B R c x f :=
  { m with
    obj := by rw [setCell_eq_setRow w B 1 _ _ _ _ m.obj, setRow_heap w B _ _ _ _ m.obj]; simp
    row := by rw [Below.heap_setCell _ _ _ _ (by exact fun e => m.ne e.symm)]; exact m.row
    one := h1, hf := h2 }
theorem setF {w : World} {B R : Nat} {c : List Int} {h f : Int} (m : Mem w B R c h f) {x : Int} (h1 : h ≤ x) (h2 : x ≤ c.length) : Mem (w.setCell ⟨B, 2, none⟩ (iv x)) B R c h x :=
  { m with
    obj := by rw [setCell_eq_setRow w B 2 _ _ _ _ m.obj, setRow_heap w B _ _ _ _ m.obj]; simp
    row := by rw [Below.heap_setCell _ _ _ _ (by exact fun e => m.ne e.symm)]; exact m.row
    hf := h1, fn := h2 }
theorem setRow {w : World} {B R : Nat} {c : List Int} {h f : Int} (m : Mem w B R c h f) {d : List Int} (hd : d.length = c.length) : Mem (w.setRow R (vals d).toArray) B R d h f :=
  { m with
    obj := by rw [setRow_other _ _ _ _ m.ne, hd]; exact m.obj
    row := setRow_heap w R _ _ _ _ m.row
    fn := by rw [hd]; exact m.fn
    cap := by rw [hd]; exact m.cap }
theorem store {w : World} {B R : Nat} {c : List Int} {h f : Int} (m : Mem w B R c h f) {k : Nat} (v : Int) : Mem (w.setCell ⟨R, k, none⟩ (iv v)) B R (c.set k v) h f := by
  have e : w.setCell ⟨R, k, none⟩ (iv v) = w.setRow R (vals (c.set k v)).toArray := by
    rw [setCell_eq_setRow w R k _ _ _ _ m.row]; simp [vals, List.map_set]
  rw [e]; exact m.setRow (by simp)
end Mem

/-- The cells from place a on, n of them, hold nought. -/
def wipe (c : List Int) (a n : Nat) : List Int := splice c a (List.replicate n 0)
theorem wipe_len (c : List Int) (a n : Nat) (h : a + n ≤ c.length) : (wipe c a n).length = c.length := length_splice _ _ _ (by simpa using h)
theorem vals_wipe (c : List Int) (a n : Nat) : vals (wipe c a n) = (vals c).take a ++ (List.replicate n (iv 0) ++ (vals c).drop (a + n)) := by
  simp [vals, wipe, splice, List.map_take, List.map_drop]
theorem wipe_get (c : List Int) (a n : Nat) (h : a + n ≤ c.length) (k : Nat) : (wipe c a n).getD k 0 = if a ≤ k ∧ k < a + n then 0 else c.getD k 0 := by
  simp only [wipe, splice, List.getD_eq_getElem?_getD]
  by_cases h1 : k < a
  · rw [List.getElem?_append_left (by simp; omega), List.getElem?_take, if_pos h1, if_neg (by omega)]
  · rw [List.getElem?_append_right (by simp; omega)]
    have : min a c.length = a := by omega
    simp only [List.length_take, this]
    by_cases h2 : k < a + n
    · rw [List.getElem?_append_left (by simp; omega), if_pos ⟨by omega, h2⟩]
      rw [List.getElem?_replicate]; split <;> rfl
    · rw [List.getElem?_append_right (by simp; omega), if_neg (by omega), List.getElem?_drop]
      congr 2; simp; omega

theorem run_clear {P : Program} (w : World) (t T elem : TypeId) (g off n cap : Nat) (cur : List Value) (rt : TypeId) (i : TypeInfo) (hu : P.underlying t = some (.slice elem)) (hi : P.info? elem = some i) (hz : i.zero = some (iv 0))
    (hg : w.heap[g]? = some (.cells cur.toArray rt (0, 0))) (hfit : off + n ≤ cur.length) (hn : 0 < n) :
    (Builtin.clear_ #[t] T #[.slice (some ⟨g, off, none⟩) n cap]).run P w = .ok (.tuple #[]) (w.setRow g (cur.take off ++ (List.replicate n (iv 0) ++ cur.drop (off + n))).toArray) := by
  have hst := run_storeCells_at P g off rt (List.replicate n (iv 0)) 0 cur.toArray w hg (by simpa using hfit) (fun v hv => by rw [(List.mem_replicate.1 hv).2]; rfl)
  have hzc : (Builtin.zeroCells (iv 0).cells n).toList = List.replicate n (iv 0) := by
    have := toList_madeCells_one (iv 0) n
    simpa [Builtin.zeroCells, madeCells, Value.cells] using this
  obtain ⟨k, rfl⟩ : ∃ k, n = k + 1 := ⟨n - 1, by omega⟩
  simp only [Nat.add_zero, List.length_replicate, List.append_assoc] at hst
  simp only [Builtin.clear_]
  simp [run_underlying hu, zeroValue, typeInfo, hi, hz, hzc, hst]

theorem run_clear_none {P : Program} (w : World) (t T elem : TypeId) (sp : Option Addr) (cap : Nat) (hu : P.underlying t = some (.slice elem)) :
    (Builtin.clear_ #[t] T #[.slice sp 0 cap]).run P w = .ok (.tuple #[]) w := by
  cases sp <;> simp [Builtin.clear_, run_underlying hu]

theorem Tryz.info3 : ∃ i, Tryz.prog.info? 3 = some i ∧ i.zero = some (iv 0) := by
  have h : (Tryz.prog.info? 3).map (fun i => i.zero) = some (some (iv 0)) := by kernel_rfl
  obtain ⟨i, h1, h2⟩ := Option.map_eq_some_iff.1 h
  exact ⟨i, h1, h2⟩

theorem run_clear_mem {w : World} {B R : Nat} {c : List Int} {h f : Int} (m : Mem w B R c h f) (T : TypeId) (sp : Option Addr) (n cap off : Nat) (hpos : 0 < n → sp = some ⟨R, off, none⟩) (hfit : off + n ≤ c.length) :
    (Builtin.clear_ #[34] T #[.slice sp n cap]).run Tryz.prog w = .ok (.tuple #[]) (w.setRow R (vals (wipe c off n)).toArray) := by
  obtain ⟨i, h1, h2⟩ := Tryz.info3
  rw [vals_wipe]
  by_cases hn : 0 < n
  · rw [hpos hn]
    exact run_clear w 34 T 3 R off n cap (vals c) 3 i Tryz.underlying34 h1 h2 m.row (by rw [vals_len]; exact hfit) hn
  · obtain rfl : n = 0 := by omega
    have : (vals c).take off ++ (List.replicate 0 (iv 0) ++ (vals c).drop (off + 0)) = vals c := by simp
    rw [this, setRow_self w R _ _ _ m.row]
    exact run_clear_none w 34 T 3 sp cap Tryz.underlying34

theorem step_clear {ops : Array Oper} {o : Oper} {a : Act} {w : World} {K : Act → World → Prop} {Q : Exit → Act → World → Prop} {E : Prop} (hgd : o.guard = none) (s : Operand)
    (ho : o.op = .call { callee := .builtin .clear, args := #[s], argTypes := #[34] }) {B R : Nat} {c : List Int} {h f : Int} (m : Mem w B R c h f) (sp : Option Addr) (n cap off : Nat) (hs : a.eval s = .slice sp n cap)
    (hpos : 0 < n → sp = some ⟨R, off, none⟩) (hfit : off + n ≤ c.length) (hK : K (a.put o.dst (.tuple #[])) (w.setRow R (vals (wipe c off n)).toArray)) :
    if Region.wanted o (yielded ops a.tmps) = true then Oper.wp Tryz.prog o a w K Q else E := by
  have hw : Region.wanted o (yielded ops a.tmps) = true := by simp [Region.wanted, hgd]
  rw [if_pos hw]
  have hrun := run_clear_mem m o.type sp n cap off hpos hfit
  unfold Oper.wp
  simp [execOp, ho, resolve, invoke, builtin, hs, hrun, Result.andThen]
  exact hK

end Go.Proofs.YtbfmadcppnfgpaaGreatDoor.Q
