/-
  Contracts of write and Encode of package inst (layer 2), by walks over the translation.
-/
import Derived.Test.YtnlkeghgmmoioaaDoorText
import Derived.Test.YtnlkeghgmmoioaaDoorNums
namespace Go.Proofs.YtnlkeghgmmoioaaDoor
open Go.ChangeShapes Go.WideShapes Go.ChangeAt Go.RowKit


/-- The bytes of an instruction, as numbers. -/
def encI (o a b c i : Int) : List Int := [o, a * 16 + b, c, 0, i % 256, i / 256 % 256, i / 65536 % 256, i / 16777216 % 256]
def encL (o a b c i : Int) : List UInt8 := (encI o a b c i).map u8
theorem encL_len (o a b c i : Int) : (encL o a b c i).length = 8 := rfl
theorem encI_ok {o a b c i : Int} (h : rightB o a b c i = true) : ∀ z ∈ encI o a b c i, 0 ≤ z ∧ z < 256 := by
  obtain ⟨hh, ha, hb, hc, hi⟩ := right_parts h
  have ho := right_op h
  intro z hz
  simp only [encI, List.mem_cons, List.not_mem_nil, or_false] at hz
  rcases hz with rfl | rfl | rfl | rfl | rfl | rfl | rfl | rfl <;> omega
theorem encL_cells {o a b c i : Int} (h : rightB o a b c i = true) : (encI o a b c i).map (Value.int .u8) = (encL o a b c i).map fun x => Value.int .u8 (x.toNat : Int) := by
  unfold encL
  rw [List.map_map]
  refine List.map_congr_left fun z hz => ?_
  show Value.int .u8 z = Value.int .u8 ((u8 z).toNat : Int)
  rw [u8_nat z (encI_ok h z hz)]

def HasBytes (W : World) (blk off : Nat) (l : List UInt8) : Prop := ∀ j (hj : j < l.length), W.cell? ⟨blk, off + j, none⟩ = some (.int .u8 (l[j].toNat : Int))
/-- A slice of bytes, of the call's own memory, that holds just these. -/
def IsBytes (W : World) (n : Nat) (v : Value) (l : List UInt8) : Prop :=
  (l = [] ∧ v = .slice none 0 0) ∨ ∃ blk cap, v = .slice (some ⟨blk, 0, none⟩) l.length cap ∧ n ≤ blk ∧ blk < W.heap.size ∧ HasBytes W blk 0 l
theorem HasBytes.later {W W' : World} {blk off : Nat} {l : List UInt8} (h : HasBytes W blk off l) (hlt : blk < W.heap.size) (hb : Below W.heap.size W W') : HasBytes W' blk off l :=
  fun j hj => (hb.cell (p := ⟨blk, off + j, none⟩) hlt).trans (h j hj)
theorem IsBytes.later {W W' : World} {n : Nat} {v : Value} {l : List UInt8} (h : IsBytes W n v l) (hb : Below W.heap.size W W') : IsBytes W' n v l := by
  rcases h with ⟨h1, h2⟩ | ⟨blk, cap, h1, h2, h3, h4⟩
  · exact .inl ⟨h1, h2⟩
  · exact .inr ⟨blk, cap, h1, h2, Nat.lt_of_lt_of_le h3 hb.size, h4.later h3 hb⟩
theorem IsBytes.down {W : World} {n m : Nat} {v : Value} {l : List UInt8} (h : IsBytes W n v l) (hm : m ≤ n) : IsBytes W m v l := by
  rcases h with ⟨h1, h2⟩ | ⟨blk, cap, h1, h2, h3, h4⟩
  · exact .inl ⟨h1, h2⟩
  · exact .inr ⟨blk, cap, h1, by omega, h3, h4⟩
theorem HasBytes.conv {W : World} {blk off cap : Nat} {l : List UInt8} (h : HasBytes W blk off l) : (convert 25 9 (.slice (some ⟨blk, off, none⟩) l.length cap)).run Tryd.prog W = .ok (.string (bs l)) W :=
  run_convert_bytes_back (P := Tryd.prog) W 25 9 5 ⟨blk, off, none⟩ cap l Tryd.underlying25 Tryd.underlying5 Tryd.underlying9 (fun j hj => by
    have := h j hj
    rwa [show (⟨blk, off, none⟩ : Addr).add j = ⟨blk, off + j, none⟩ by unfold Addr.add; split <;> simp_all])
theorem IsBytes.conv {W : World} {n : Nat} {v : Value} {l : List UInt8} (h : IsBytes W n v l) : (convert 25 9 v).run Tryd.prog W = .ok (.string (bs l)) W := by
  rcases h with ⟨rfl, rfl⟩ | ⟨blk, cap, rfl, _, _, h4⟩
  · exact run_convert_bytes_nil (P := Tryd.prog) W 25 5 Tryd.underlying25 Tryd.underlying5 0 0 9 Tryd.underlying9
  · exact h4.conv

theorem write_any (blk off cap : Nat) (o a b c i : Int) (w : World) (v : Nat → Value) (hlt : blk < w.heap.size)
    (ho : 0 ≤ o ∧ o ≤ 14) (ha : 0 ≤ a ∧ a ≤ 15) (hb : 0 ≤ b ∧ b ≤ 15) (hcc : 0 ≤ c ∧ c ≤ 15)
    (hc : ∀ j, j < 8 → w.cell? ⟨blk, off + j, none⟩ = some (v j)) (hf : ∀ j, j < 8 → w.frozen? ⟨blk, off + j, none⟩ = false) :
    Calls Tryd.prog 30 #[.slice (some ⟨blk, off, none⟩) 8 cap, .agg #[.int .i64 o, .int .i64 a, .int .i64 b, .int .i64 c, .int .i64 i]] w fun e w' => e = .returned (.tuple #[]) ∧
      w' = (w.setCells blk off ((encI o a b c i).map (Value.int .u8))).alloc (.cells #[.int .i64 o, .int .i64 a, .int .i64 b, .int .i64 c, .int .i64 i] 23) := by
  have c0 := hc 0 (by omega)
  have f0 := hf 0 (by omega)
  have c1 := hc 1 (by omega)
  have f1 := hf 1 (by omega)
  have c2 := hc 2 (by omega)
  have f2 := hf 2 (by omega)
  have c3 := hc 3 (by omega)
  have f3 := hf 3 (by omega)
  have c4 := hc 4 (by omega)
  have f4 := hf 4 (by omega)
  have c5 := hc 5 (by omega)
  have f5 := hf 5 (by omega)
  have c6 := hc 6 (by omega)
  have f6 := hf 6 (by omega)
  have c7 := hc 7 (by omega)
  have f7 := hf 7 (by omega)
  rw [Nat.add_zero] at c0 f0
  clear hc hf
  have hor := or_low a b ha hb
  obtain ⟨o0, o1⟩ := ho
  obtain ⟨a0, a1⟩ := ha
  obtain ⟨b0, b1⟩ := hb
  obtain ⟨d0, d1⟩ := hcc
  go_enter Tryd.func30, Tryd.ntmps30
  go_wp2
  go_loopw [26] (fun k wr => (k = .int .i64 0 ∧ wr = ((((w.setCell ⟨blk, off, none⟩ (.int .u8 (o))).setCell ⟨blk, off + 1, none⟩ (.int .u8 (a * 16 + b))).setCell ⟨blk, off + 2, none⟩ (.int .u8 (c))).setCell ⟨blk, off + 3, none⟩ (.int .u8 (0))).alloc (.cells #[.int .i64 o, .int .i64 a, .int .i64 b, .int .i64 c, .int .i64 i] 23)) ∨ (k = .int .i64 1 ∧ wr = (((((w.setCell ⟨blk, off, none⟩ (.int .u8 (o))).setCell ⟨blk, off + 1, none⟩ (.int .u8 (a * 16 + b))).setCell ⟨blk, off + 2, none⟩ (.int .u8 (c))).setCell ⟨blk, off + 3, none⟩ (.int .u8 (0))).setCell ⟨blk, off + 4, none⟩ (.int .u8 (i % 256))).alloc (.cells #[.int .i64 o, .int .i64 a, .int .i64 b, .int .i64 c, .int .i64 i] 23)) ∨ (k = .int .i64 2 ∧ wr = ((((((w.setCell ⟨blk, off, none⟩ (.int .u8 (o))).setCell ⟨blk, off + 1, none⟩ (.int .u8 (a * 16 + b))).setCell ⟨blk, off + 2, none⟩ (.int .u8 (c))).setCell ⟨blk, off + 3, none⟩ (.int .u8 (0))).setCell ⟨blk, off + 4, none⟩ (.int .u8 (i % 256))).setCell ⟨blk, off + 5, none⟩ (.int .u8 (i / 256 % 256))).alloc (.cells #[.int .i64 o, .int .i64 a, .int .i64 b, .int .i64 c, .int .i64 i] 23)) ∨ (k = .int .i64 3 ∧ wr = (((((((w.setCell ⟨blk, off, none⟩ (.int .u8 (o))).setCell ⟨blk, off + 1, none⟩ (.int .u8 (a * 16 + b))).setCell ⟨blk, off + 2, none⟩ (.int .u8 (c))).setCell ⟨blk, off + 3, none⟩ (.int .u8 (0))).setCell ⟨blk, off + 4, none⟩ (.int .u8 (i % 256))).setCell ⟨blk, off + 5, none⟩ (.int .u8 (i / 256 % 256))).setCell ⟨blk, off + 6, none⟩ (.int .u8 (i / 65536 % 256))).alloc (.cells #[.int .i64 o, .int .i64 a, .int .i64 b, .int .i64 c, .int .i64 i] 23)) ∨ (k = .int .i64 4 ∧ wr = ((((((((w.setCell ⟨blk, off, none⟩ (.int .u8 (o))).setCell ⟨blk, off + 1, none⟩ (.int .u8 (a * 16 + b))).setCell ⟨blk, off + 2, none⟩ (.int .u8 (c))).setCell ⟨blk, off + 3, none⟩ (.int .u8 (0))).setCell ⟨blk, off + 4, none⟩ (.int .u8 (i % 256))).setCell ⟨blk, off + 5, none⟩ (.int .u8 (i / 256 % 256))).setCell ⟨blk, off + 6, none⟩ (.int .u8 (i / 65536 % 256))).setCell ⟨blk, off + 7, none⟩ (.int .u8 (i / 16777216 % 256))).alloc (.cells #[.int .i64 o, .int .i64 a, .int .i64 b, .int .i64 c, .int .i64 i] 23))) (fun k _ => (4 - intOf k).toNat)
  case atStart => exact .inl ⟨rfl, rfl⟩
  case round =>
    rcases hrel with ⟨rfl, rfl⟩ | ⟨rfl, rfl⟩ | ⟨rfl, rfl⟩ | ⟨rfl, rfl⟩ | ⟨rfl, rfl⟩
    · go_wp2
      go_roundw
      case rel => exact .inr (.inl ⟨rfl, trivial⟩)
      case measure => simp [intOf]
    · go_wp2
      go_roundw
      case rel => exact .inr (.inr (.inl ⟨rfl, trivial⟩))
      case measure => simp [intOf]
    · go_wp2
      go_roundw
      case rel => exact .inr (.inr (.inr (.inl ⟨rfl, trivial⟩)))
      case measure => simp [intOf]
    · go_wp2
      go_roundw
      case rel => exact .inr (.inr (.inr (.inr ⟨rfl, trivial⟩)))
      case measure => simp [intOf]
    · go_wp2
      go_end0
      exact ⟨rfl, rfl⟩

theorem below_sets {B b : Nat} {a : World} (hb : B ≤ b) : ∀ (vs : List Value) (o : Nat) (w : World), Below B a w → Below B a (w.setCells b o vs)
  | [], _, _, h => h
  | v :: r, o, _, h => below_sets hb r (o + 1) _ (h.setCell (p := ⟨b, o, none⟩) hb v)
theorem size_sets (b : Nat) : ∀ (vs : List Value) (o : Nat) (w : World), (w.setCells b o vs).heap.size = w.heap.size
  | [], _, _ => rfl
  | v :: r, o, w => by rw [World.setCells, size_sets b r]; simp
def zero8 : Obj := .cells #[.int .u8 0, .int .u8 0, .int .u8 0, .int .u8 0, .int .u8 0, .int .u8 0, .int .u8 0, .int .u8 0] 5
theorem zero8_cell (W : World) (j : Nat) (hj : j < 8) : (W.alloc zero8).cell? ⟨W.heap.size, 0 + j, none⟩ = some (.int .u8 0) := by
  rw [Nat.zero_add]; unfold zero8; rw [World.cell?_alloc_new]
  have : j = 0 ∨ j = 1 ∨ j = 2 ∨ j = 3 ∨ j = 4 ∨ j = 5 ∨ j = 6 ∨ j = 7 := by omega
  rcases this with rfl | rfl | rfl | rfl | rfl | rfl | rfl | rfl <;> rfl
theorem enc_made (W : World) (X : Obj) {o a b c i : Int} (h : rightB o a b c i = true) :
    HasBytes (((W.alloc zero8).setCells W.heap.size 0 ((encI o a b c i).map (Value.int .u8))).alloc X) W.heap.size 0 (encL o a b c i) ∧ Below W.heap.size W (((W.alloc zero8).setCells W.heap.size 0 ((encI o a b c i).map (Value.int .u8))).alloc X) ∧ W.heap.size < (((W.alloc zero8).setCells W.heap.size 0 ((encI o a b c i).map (Value.int .u8))).alloc X).heap.size := by
  have hsz := size_sets W.heap.size ((encI o a b c i).map (Value.int .u8)) 0 (W.alloc zero8)
  have hs1 : (W.alloc zero8).heap.size = W.heap.size + 1 := by simp
  refine ⟨fun j hj => ?_, ?_, ?_⟩
  · rw [World.cell?_alloc_lt (h := by show W.heap.size < _; rw [hsz]; simp)]
    rw [encL_cells h]
    rw [World.cell?_setCells_in W.heap.size _ 0 _ (fun k hk => by
      rw [zero8_cell W k (by simpa [encL_len] using hk)]; rfl) j (by simpa using hj)]
    simp
  · exact (below_sets (Nat.le_refl _) _ _ _ ((Below.refl _ _).alloc (Nat.le_refl _) _)).alloc (by rw [hsz]; simp) _
  · rw [World.size_alloc, hsz]; simp; omega

theorem encode_no (o a b c i : Int) (h : rightB o a b c i = false) (w : World) :
    Calls Tryd.prog 10 #[.agg #[.int .i64 o, .int .i64 a, .int .i64 b, .int .i64 c, .int .i64 i]] w fun e w' => e = .returned (.tuple #[.slice none 0 0, .int .i64 1]) ∧ Below w.heap.size w w' := by
  go_enter Tryd.func10, Tryd.ntmps10
  go_wp2_with fail
  refine (right_any _ _ _ _ _ _).mono ?_; rintro e w1 ⟨rfl, hb⟩
  obtain ⟨hc, hf⟩ := bcell hb
  obtain ⟨hB, hz⟩ := bel_box hb
  go_wp2_with fail
  go_ret2
  exact ⟨rfl, hB⟩
theorem encode_yes (o a b c i : Int) (h : rightB o a b c i = true) (w : World) :
    Calls Tryd.prog 10 #[.agg #[.int .i64 o, .int .i64 a, .int .i64 b, .int .i64 c, .int .i64 i]] w fun e w' => ∃ v, e = .returned (.tuple #[v, .int .i64 0]) ∧ IsBytes w' w.heap.size v (encL o a b c i) ∧ Below w.heap.size w w' := by
  obtain ⟨hh, ha, hb', hc', hi⟩ := right_parts h
  have ho := right_op h
  have hmk : ∀ w, (Instr.makeSlice 25 (.int .i64 8) (.int .i64 8)).run Tryd.prog w = .ok (.slice (some ⟨w.heap.size, 0, none⟩) 8 8) (w.alloc (.cells #[.int .u8 0, .int .u8 0, .int .u8 0, .int .u8 0, .int .u8 0, .int .u8 0, .int .u8 0, .int .u8 0] 5)) := fun _ => by kernel_rfl
  go_enter Tryd.func10, Tryd.ntmps10
  go_wp2_with fail
  refine (right_any _ _ _ _ _ _).mono ?_; rintro e w1 ⟨rfl, hb⟩
  obtain ⟨hc, hf⟩ := bcell hb
  obtain ⟨hB, hz⟩ := bel_box hb
  go_wp2_with fail
  refine (write_any w1.heap.size 0 8 o a b c i (w1.alloc zero8) (fun _ => .int .u8 0) (by simp) ho ha hb' hc' (zero8_cell w1) (fun j _ => World.frozen?_alloc_new _ _ _ _)).mono ?_; rintro e w2 ⟨rfl, hw2⟩
  obtain ⟨m1, m2, m3⟩ := enc_made w1 (.cells #[.int .i64 o, .int .i64 a, .int .i64 b, .int .i64 c, .int .i64 i] 23) h
  rw [← hw2] at m1 m2 m3
  clear hw2 hmk
  obtain ⟨hB2, hz2⟩ := bel_on hB m2
  go_wp2_with fail
  go_ret2
  exact ⟨_, rfl, .inr ⟨w1.heap.size, 8, rfl, hB.size, m3, m1⟩, hB2⟩

end Go.Proofs.YtnlkeghgmmoioaaDoor
