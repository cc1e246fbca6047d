/-
  Boxed instructions, and bytes in a row (layer 5).
-/
import Derived.Test.YtbfmadcppnfgpaaDoorText
import Derived.Laws.IdiomStrings
namespace Go.Proofs.YtbfmadcppnfgpaaDoor
open Go.ChangeShapes Go.WideShapes Go.ChangeAt Go.RowKit

/-- An instruction's box: its five cells, and that it is there. -/
structure XBox (W : World) (k : Nat) (o a b c i : Int) : Prop where
  c0 : W.cell? ⟨k, 0, none⟩ = some (.int .i64 o)
  c1 : W.cell? ⟨k, 1, none⟩ = some (.int .i64 a)
  c2 : W.cell? ⟨k, 2, none⟩ = some (.int .i64 b)
  c3 : W.cell? ⟨k, 3, none⟩ = some (.int .i64 c)
  c4 : W.cell? ⟨k, 4, none⟩ = some (.int .i64 i)
  lt : k < W.heap.size
theorem XBox.new (W : World) (o a b c i : Int) : XBox (W.alloc (.cells #[.int .i64 o, .int .i64 a, .int .i64 b, .int .i64 c, .int .i64 i] 32)) W.heap.size o a b c i :=
  ⟨by rw [World.cell?_alloc_new]; rfl, by rw [World.cell?_alloc_new]; rfl, by rw [World.cell?_alloc_new]; rfl, by rw [World.cell?_alloc_new]; rfl, by rw [World.cell?_alloc_new]; rfl, by simp⟩
theorem XBox.on {W W' : World} {k : Nat} {o a b c i : Int} (h : XBox W k o a b c i) (hb : Below W.heap.size W W') : XBox W' k o a b c i :=
  ⟨(hb.cell (p := ⟨k, 0, none⟩) h.lt).trans h.c0, (hb.cell (p := ⟨k, 1, none⟩) h.lt).trans h.c1, (hb.cell (p := ⟨k, 2, none⟩) h.lt).trans h.c2, (hb.cell (p := ⟨k, 3, none⟩) h.lt).trans h.c3, (hb.cell (p := ⟨k, 4, none⟩) h.lt).trans h.c4, Nat.lt_of_lt_of_le h.lt hb.size⟩
theorem XBox.past {W : World} {k : Nat} {o a b c i : Int} (h : XBox W k o a b c i) (X : Obj) : XBox (W.alloc X) k o a b c i := h.on ((Below.refl _ _).alloc (Nat.le_refl _) _)

/-- A number of eight bits, as a byte. -/
def u8 (z : Int) : UInt8 := UInt8.ofNat z.toNat
theorem u8_nat (z : Int) (h : 0 ≤ z ∧ z < 256) : ((u8 z).toNat : Int) = z := by
  unfold u8; rw [UInt8.toNat_ofNat']; omega

def HasBytes (W : World) (blk off : Nat) (l : List UInt8) : Prop := ∀ j (hj : j < l.length), W.cell? ⟨blk, off + j, none⟩ = some (.int .u8 (l[j].toNat : Int))
theorem HasBytes.later {W W' : World} {blk off : Nat} {l : List UInt8} (h : HasBytes W blk off l) (hlt : blk < W.heap.size) (hb : Below W.heap.size W W') : HasBytes W' blk off l :=
  fun j hj => (hb.cell (p := ⟨blk, off + j, none⟩) hlt).trans (h j hj)
theorem HasBytes.conv {W : World} {blk off cap : Nat} {l : List UInt8} (h : HasBytes W blk off l) : (convert 63 9 (.slice (some ⟨blk, off, none⟩) l.length cap)).run Tryd.prog W = .ok (.string (bs l)) W :=
  run_convert_bytes_back (P := Tryd.prog) W 63 9 5 ⟨blk, off, none⟩ cap l Tryd.underlying63 Tryd.underlying5 Tryd.underlying9 (fun j hj => by
    have := h j hj
    rwa [show (⟨blk, off, none⟩ : Addr).add j = ⟨blk, off + j, none⟩ by unfold Addr.add; split <;> simp_all])
theorem bs_inj {l m : List UInt8} (h : bs l = bs m) : l = m := by rw [← bs_data l, ← bs_data m, h]


end Go.Proofs.YtbfmadcppnfgpaaDoor
