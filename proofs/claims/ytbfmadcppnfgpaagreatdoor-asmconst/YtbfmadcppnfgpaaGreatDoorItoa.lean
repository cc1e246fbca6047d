/-
  Contracts of registerText and of numbers as digits (layer 2), by walks over the translation; the tables that are read.
-/
import Derived.Test.YtbfmadcppnfgpaaGreatDoorInst
import Derived.Test.YtbfmadcppnfgpaaGreatDoorShelf
import Derived.Lib.LaidTab
import Derived.Lib.ItoaLen
namespace Go.Proofs.YtbfmadcppnfgpaaGreatDoor
open Go.ChangeShapes Go.WideShapes Go.ChangeAt Go.RowKit

def bs (l : List UInt8) : ByteArray := ⟨l.toArray⟩

theorem bs_size (l : List UInt8) : (bs l).size = l.length := by simp [bs, ByteArray.size]

theorem ba_app (a b : ByteArray) : (a ++ b).data.toList = a.data.toList ++ b.data.toList := by
  rw [ByteArray.data_append, Array.toList_append]

theorem bs_of {s : ByteArray} {l : List UInt8} (h : s.data.toList = l) : s = bs l := by
  subst h; cases s; simp [bs]

theorem bs_data (l : List UInt8) : (bs l).data.toList = l := rfl

theorem ret_str {s : ByteArray} {l : List UInt8} (h : s.data.toList = l) : Ending.returned (.string s) = .returned (.string (bs l)) := by rw [bs_of h]

def rt (n : Int) (named : Bool) : List UInt8 := if named = true then 32 :: 114 :: Lib.decDigits n.toNat else []

theorem dec_len (n : Nat) (h : n < 100) : (Lib.decDigits n).length ≤ 2 := by
  rw [Lib.decDigits_length]
  by_cases h1 : n < 10
  · have := Lib.decDigits_length n; rw [Lib.decDigits_one h1] at this; simp at this; omega
  · have := Lib.decDigits_length n; rw [Lib.decDigits_two h1 h] at this; simp at this; omega

theorem rt_any (n : Int) (b : Bool) (h : b = true → 0 ≤ n ∧ n ≤ 15) (w : World) :
    Calls Tryz.prog 55 #[.int .i64 n, .bool b] w fun e w' => e = .returned (.string (bs (rt n b))) ∧ w' = w := by
  cases b
  · clear h
    go_enter Tryz.func55, Tryz.ntmps55
    go_wp2
    go_ret
    exact ⟨ret_str rfl, rfl⟩
  · obtain ⟨h0, h1⟩ := h rfl
    clear h
    obtain ⟨k, rfl⟩ := Int.eq_ofNat_of_zero_le h0
    have hk : k < 100 := by omega
    have hl := dec_len k hk
    go_enter Tryz.func55, Tryz.ntmps55
    go_wp2_with fail
    refine (Tryz.strconv_Itoa_small k hk _).mono ?_; rintro e w' ⟨rfl, rfl⟩
    go_wp2_with fail
    go_ret
    exact ⟨ret_str (by rw [ba_app]; simp [rt]), rfl⟩

def namesL : List (List UInt8) := [[104, 97, 108, 116], [108, 105], [108, 105, 104], [109, 111, 118], [98, 105, 110], [108, 100], [115, 116], [106, 109, 112], [106, 122], [99, 97, 108, 108], [114, 101, 116], [105, 110], [111, 117, 116], [97, 108, 108, 111, 99], [97, 100, 100, 105]]

def Tabs (w : World) : Prop := Lib.TabIs Tryz.prog w "internal/strconv.uint64pow10" .u64 Lib.pow10Tab ∧ w.var? Tryz.prog "swage/inst.names" = some (namesL.map fun l => Value.string (bs l)).toArray

theorem gNames : Tryz.prog.globalNamed "swage/inst.names" = some 0 := by kernel_rfl

theorem var_on {w w' : World} {n : String} {cs : Array Value} (h : w.var? Tryz.prog n = some cs) (hb : Below w.heap.size w w') : w'.var? Tryz.prog n = some cs := by
  unfold World.var? at h ⊢
  cases hg : Tryz.prog.globalNamed n with
  | none => simp [hg] at h
  | some g =>
    simp only [hg, Option.bind_some] at h ⊢
    have hlt : g < w.heap.size := by
      rcases Nat.lt_or_ge g w.heap.size with h' | h'
      · exact h'
      · rw [Array.getElem?_eq_none h'] at h; simp at h
    rw [hb.block g hlt]
    exact h

theorem Tabs.on {w w' : World} (h : Tabs w) (hb : Below w.heap.size w w') : Tabs w' := ⟨var_on h.1 hb, var_on h.2 hb⟩

theorem Tabs.pos {w : World} (h : Tabs w) : 0 < w.heap.size := by
  have h2 := h.2
  unfold World.var? at h2
  rw [gNames] at h2
  rcases Nat.lt_or_ge 0 w.heap.size with h' | h'
  · exact h'
  · simp only [Option.bind_some] at h2; rw [Array.getElem?_eq_none h'] at h2; simp at h2

theorem Tabs.name {w : World} (h : Tabs w) (j : Nat) : w.cell? ⟨0, j, none⟩ = (namesL.map fun l => Value.string (bs l)).toArray[j]? := World.var?_cell gNames h.2 j

theorem Tabs.box {w : World} (h : Tabs w) (X : Obj) : Tabs (w.alloc X) := h.on ((Below.refl _ _).alloc (Nat.le_refl _) _)

theorem itoa_any (n : Int) (h0 : -9223372036854775808 ≤ n) (h1 : n ≤ 9223372036854775807) (w : World) (hT : Tabs w) :
    Calls Tryz.prog 44 #[.int .i64 n] w fun e w' => e = .returned (.string (bs (Lib.itoa n))) ∧ Below w.heap.size w w' :=
  (Tryz.strconv_Itoa n h0 h1 w hT.1).mono fun e w' ⟨he, k, os, hw⟩ => ⟨he, by
    subst hw
    exact ⟨rfl, rfl, rfl, by show w.heap.size ≤ (w.heap ++ os).size; rw [Array.size_append]; omega, fun j hj => by show (w.heap ++ os)[j]? = w.heap[j]?; exact Array.getElem?_append_left hj⟩⟩

end Go.Proofs.YtbfmadcppnfgpaaGreatDoor
