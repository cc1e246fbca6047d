/-
  What the document answers of trees (layer 10): a node in its box.
-/
import Derived.Test.YtgndnodahlabiaaRfC
namespace Go.Proofs.Ytgndnodahlabiaa
open Go.ChangeShapes Go.WideShapes Go.ChangeAt Go.RowKit

/-- A node's box, its kids, as things go on. -/
structure Rs (D : Nat → Prop) (W : World) (k : Int) (t : List UInt8) (a : Int) (av : Option Addr) (cap blk off : Nat) (ks : List Nv) (V : World) : Prop where
  bel : Below W.heap.size W V
  box : V.heap[W.heap.size]? = some (.cells #[.int .i64 k, .string (bs t), .int .i64 a, .slice av ks.length cap] 24 (0, 0))
  row : RowD D V av blk off ks
  kid : ∀ n, n ∈ ks → LiesD D V n
variable {D : Nat → Prop} {W : World} {k : Int} {t : List UInt8} {a : Int} {av : Option Addr} {cap blk off : Nat} {ks : List Nv} {V V' : World}
theorem Rs.below (h : Rs D W k t a av cap blk off ks V) (hb : Below V.heap.size V V') : Rs D W k t a av cap blk off ks V' :=
  ⟨bel_two h.bel hb, (hb.block _ (lt_of h.box)).trans h.box, h.row.turns (turns_b (Q := fun _ => False) hb) (fun _ _ _ h => h), fun n hn => (h.kid n hn).turns (turns_b (Q := fun _ => False) hb) (fun _ _ _ h => h)⟩
theorem Rs.start (hr : RowD D W av blk off ks) (hk : ∀ n, n ∈ ks → LiesD D W n) : Rs D W k t a av cap blk off ks (W.alloc (.cells #[.int .i64 k, .string (bs t), .int .i64 a, .slice av ks.length cap] 24)) := by
  have hb := bel_new W (.cells #[.int .i64 k, .string (bs t), .int .i64 a, .slice av ks.length cap] 24)
  exact ⟨hb, World.alloc_heap_new W _, hr.turns (turns_b (Q := fun _ => False) hb) (fun _ _ _ h => h), fun n hn => (hk n hn).turns (turns_b (Q := fun _ => False) hb) (fun _ _ _ h => h)⟩
theorem Rs.text (h : Rs D W k t a av cap blk off ks V) : V.cell? ⟨W.heap.size, 0, none⟩ = some (.int .i64 k) ∧ V.cell? ⟨W.heap.size, 1, none⟩ = some (.string (bs t)) ∧ V.cell? ⟨W.heap.size, 3, none⟩ = some (.slice av ks.length cap) :=
  ⟨cell_of h.box 0, cell_of h.box 1, cell_of h.box 3⟩
theorem Rs.kid0 (h : Rs D W k t a av cap blk off ks V) (hi : 0 < ks.length) {k0 : Int} {t0 : List UInt8} {a0 : Int} {v0 : Option Addr} {c0 b0 o0 : Nat} {s0 : List Nv} (he : ks[0]'hi = .mk k0 t0 a0 v0 c0 b0 o0 s0) :
    V.cell? ⟨blk, off, none⟩ = some (.int .i64 k0) ∧ V.cell? ⟨blk, off + 1, none⟩ = some (.string (bs t0)) ∧ V.cell? ⟨blk, off + 2, none⟩ = some (.int .i64 a0) ∧ V.cell? ⟨blk, off + 3, none⟩ = some (.slice v0 s0.length c0) := by
  have := h.row.kid hi he
  simpa using this
theorem Rs.kid1 (h : Rs D W k t a av cap blk off ks V) (hi : 1 < ks.length) {k0 : Int} {t0 : List UInt8} {a0 : Int} {v0 : Option Addr} {c0 b0 o0 : Nat} {s0 : List Nv} (he : ks[1]'hi = .mk k0 t0 a0 v0 c0 b0 o0 s0) :
    V.cell? ⟨blk, off + 4, none⟩ = some (.int .i64 k0) ∧ V.cell? ⟨blk, off + 5, none⟩ = some (.string (bs t0)) ∧ V.cell? ⟨blk, off + 6, none⟩ = some (.int .i64 a0) ∧ V.cell? ⟨blk, off + 7, none⟩ = some (.slice v0 s0.length c0) := h.row.kid hi he
theorem Rs.kid2 (h : Rs D W k t a av cap blk off ks V) (hi : 2 < ks.length) {k0 : Int} {t0 : List UInt8} {a0 : Int} {v0 : Option Addr} {c0 b0 o0 : Nat} {s0 : List Nv} (he : ks[2]'hi = .mk k0 t0 a0 v0 c0 b0 o0 s0) :
    V.cell? ⟨blk, off + 8, none⟩ = some (.int .i64 k0) ∧ V.cell? ⟨blk, off + 9, none⟩ = some (.string (bs t0)) ∧ V.cell? ⟨blk, off + 10, none⟩ = some (.int .i64 a0) ∧ V.cell? ⟨blk, off + 11, none⟩ = some (.slice v0 s0.length c0) := h.row.kid hi he
/-- What is known of a node's kids. -/
structure Rk (z : Nat) (t : List UInt8) (ks : List Nv) : Prop where
  ih : RTextTo z
  bnd : ∀ n, n ∈ ks → n.nd.bnd
  len : ks.length < 2 ^ 62
  sz : szL (ndL ks) ≤ z
  ned : t.length + 60 + nedL (ndL ks) ≤ 2 ^ 40
theorem Rs.call {z : Nat} (K : Rk z t ks) {i : Nat} (hi : i < ks.length) {n : Nv} (he : ks[i]'hi = n) (h : Rs D W k t a av cap blk off ks V) :
    Calls Try.prog 10 #[n.val] V fun e V' => e = .returned (.string (bs (txt n.nd))) ∧ Below V.heap.size V V' := by
  have hm : n ∈ ks := he ▸ List.getElem_mem hi
  have h1 : n.nd.sz ≤ szL (ndL ks) := sz_mem (by rw [ndL_map]; exact List.mem_map_of_mem hm)
  have h2 := ned_kid hm
  have h3 := K.sz
  have h4 := K.ned
  exact K.ih n (by omega) V D (h.kid n hm) (K.bnd n hm) (by omega)
theorem Rk.len_kid {z : Nat} (K : Rk z t ks) {i : Nat} (hi : i < ks.length) {n : Nv} (he : ks[i]'hi = n) : (txt n.nd).length ≤ 2 ^ 40 := by
  have hm : n ∈ ks := he ▸ List.getElem_mem hi
  have h2 := ned_kid hm
  have h4 := K.ned
  have := txt_ned n.nd
  omega
theorem Rs.list {z : Nat} (K : Rk z t ks) (q : List UInt8) (hq : q.length ≤ 1) (h : Rs D W k t a av cap blk off ks V) :
    Calls Try.prog 24 #[.slice av ks.length cap, .string (bs q)] V fun e V' => e = .returned (.string (bs (lst q (txtL (ndL ks))))) ∧ Below V.heap.size V V' :=
  rlist_is K.ih q hq h.row h.kid K.bnd K.len K.sz (by have := K.ned; omega)
theorem Rk.lst {z : Nat} (K : Rk z t ks) (q : List UInt8) (hq : q.length ≤ 1) : (lst q (txtL (ndL ks))).length ≤ 2 ^ 40 := by
  have h1 := lst_len q hq (txtL (ndL ks))
  have h2 := txtL_ned (ndL ks)
  have h4 := K.ned
  omega
theorem node_row {m : Nat} {l : List (List UInt8)} (hm : leastK k = some m) (hl : m ≤ l.length) (h1 : k ≠ 1) : nodeT k t l = wcat (rowP k t l) := by
  unfold nodeT
  rw [hm]
  simp only
  rw [if_neg (by omega), if_neg h1]
abbrev RAns (k : Int) (t : List UInt8) (a : Int) (av : Option Addr) (cap : Nat) (ks : List Nv) (W : World) : Prop :=
  Calls Try.prog 10 #[.agg #[.int .i64 k, .string (bs t), .int .i64 a, .slice av ks.length cap]] W fun e W' => e = .returned (.string (bs (nodeT k t (txtL (ndL ks))))) ∧ Below W.heap.size W W'
theorem kids_len (ks : List Nv) : (txtL (ndL ks)).length = ks.length := by rw [txtL_len, ndL_len]
theorem wcat_two (a b : List UInt8) : wcat [a, b] = wth a b := by rw [wcat, wcat_one]
theorem wcat_three (a b c : List UInt8) : wcat [a, b, c] = wth a (wth b c) := by rw [wcat, wcat_two]
theorem wcat_four (a b c d : List UInt8) : wcat [a, b, c, d] = wth a (wth b (wth c d)) := by rw [wcat, wcat_three]
theorem wcat_five (a b c d e : List UInt8) : wcat [a, b, c, d, e] = wth a (wth b (wth c (wth d e))) := by rw [wcat, wcat_four]
/-- with, in all worlds of a class. -/
theorem with_quiet (a b : List UInt8) (h : a.length + b.length ≤ 2 ^ 60) (V : World) (d : Nat) (os : Array Obj) : Calls Try.prog 23 #[.string (bs a), .string (bs b)] (Sort.grow (redrawn V d) os) fun e w'' => e = .returned (.string (bs (wth a b))) ∧ ∃ p : Regrown, w'' = Sort.grow (redrawn V p.d) p.os :=
  (with_is a b h _).mono fun _ _ ⟨h1, h2⟩ => ⟨h1, ⟨d, os⟩, h2⟩

theorem txt_first {ks : List Nv} (h : 0 < ks.length) : (txtL (ndL ks)).take 1 = [(txtL (ndL ks)).getD 0 []] := by
  cases ks with
  | nil => simp at h
  | cons x r => rw [ndL, txtL]; rfl
theorem txt_nokid {ks : List Nv} (h : ks.length = 0) : (txtL (ndL ks)).take 1 = [] := by
  cases ks with
  | nil => rw [ndL, txtL]; rfl
  | cons x r => simp at h
end Go.Proofs.Ytgndnodahlabiaa
