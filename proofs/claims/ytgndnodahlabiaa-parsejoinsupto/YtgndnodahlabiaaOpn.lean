/-
  A tree that came in, opened (layer 10); what its bulk bounds.
-/
import Derived.Test.YtgndnodahlabiaaMgM
import Derived.Test.YtgndnodahlabiaaRows
import Derived.Deep.Slices
import Derived.Deep.MidRow
import Derived.ChangeArms
namespace Go.Proofs.Ytgndnodahlabiaa
open Go.ChangeShapes Go.WideShapes Go.ChangeAt Go.RowKit Go.Deep

theorem cells24 : Try.prog.cellsOf 24 = 4 := by kernel_rfl
theorem cells3 : Try.prog.cellsOf 3 = 1 := by kernel_rfl
theorem cells9 : Try.prog.cellsOf 9 = 1 := by kernel_rfl
theorem cells22 : Try.prog.cellsOf 22 = 1 := by kernel_rfl
theorem pickL {α : Type} {p : Nat → α → Prop} : ∀ n, (∀ i, i < n → ∃ x, p i x) → ∃ l : List α, l.length = n ∧ ∀ j (hj : j < l.length), p j l[j]
  | 0, _ => ⟨[], rfl, fun j hj => absurd hj (Nat.not_lt_zero j)⟩
  | n + 1, h => by
    obtain ⟨l, hl, hp⟩ := pickL n (fun i hi => h i (by omega))
    obtain ⟨x, hx⟩ := h n (by omega)
    refine ⟨l ++ [x], by simp [hl], fun j hj => ?_⟩
    by_cases hlt : j < l.length
    · rw [List.getElem_append_left hlt]; exact hp j hlt
    · have : j = n := by simp at hj; omega
      subst this
      rw [List.getElem_append_right (by omega)]; simpa [hl] using hx
theorem ned_sum {H : Type} : ∀ (l : List Nv) (m : List (DataW H)), l.length = m.length → (∀ j (h1 : j < l.length) (h2 : j < m.length), ned (l[j]'h1).nd + 4 ≤ 64 * Rows.uptoBulk (m[j]'h2)) → nedL (ndL l) ≤ 64 * Rows.uptoBulkAll m
  | [], [], _, _ => by rw [ndL, nedL]; exact Nat.zero_le _
  | [], _ :: _, h, _ => by simp at h
  | _ :: _, [], h, _ => by simp at h
  | x :: l, y :: m, h, k => by
    rw [ndL, nedL, Rows.uptoBulkAll]
    have h0 := k 0 (by simp) (by simp)
    have := ned_sum l m (by simpa using h) (fun j h1 h2 => k (j + 1) (by simpa using h1) (by simpa using h2))
    simp only [List.getElem_cons_zero] at h0
    omega
mutual
theorem sz_ned : ∀ n : Nd, n.sz ≤ ned n
  | .mk k t a ks => by
    rw [Nd.sz, ned]
    have := szL_ned ks
    omega
theorem szL_ned : ∀ l : List Nd, szL l ≤ nedL l
  | [] => by rw [szL, nedL]; exact Nat.le_refl _
  | n :: r => by
    rw [szL, nedL]
    have := sz_ned n
    have := szL_ned r
    omega
end
theorem fields24 : ∃ fs, Try.prog.underlying 24 = some (.struct fs) ∧ fs.map (fun f => (f.type, f.offset)) = #[(3, 0), (9, 1), (3, 2), (22, 3)] := ⟨_, Try.underlying24, by kernel_rfl⟩
abbrev AnyD : Nat → Prop := fun _ => True
set_option maxRecDepth 100000 in
theorem open_trod {H : Type} {enc : TypeId × Value → H} {w : World} {base : Nat} {sp : Nat → Bool} {held : Bool} : ∀ (fuel : Nat) (cs : List Value) (x : DataW H × List MemPlace), DataW.trod enc Try.prog w base sp held fuel 24 cs = some x →
    ∃ n : Nv, cs = n.cs ∧ LiesD AnyD w n ∧ ned n.nd + 4 ≤ 64 * Rows.uptoBulk x.1 := by
  intro fuel
  induction fuel using Nat.strongRecOn with
  | _ fuel ih =>
    intro cs x h
    obtain ⟨xs, m, rfl, rfl, hlen, hxl, hg⟩ := DataW.trod_struct Try.underlying24 h
    rw [cells24] at hlen
    match xs, hxl, cs, hlen with
    | [y0, y1, y2, y3], _, [c0, c1, c2, c3], _ =>
      have g0 : DataW.trod enc Try.prog w base sp held m 3 [c0] = some y0 := by simpa [cells3] using hg 0 _ rfl
      have g1 : DataW.trod enc Try.prog w base sp held m 9 [c1] = some y1 := by simpa [cells9] using hg 1 _ rfl
      have g2 : DataW.trod enc Try.prog w base sp held m 3 [c2] = some y2 := by simpa [cells3] using hg 2 _ rfl
      have g3 : DataW.trod enc Try.prog w base sp held m 22 [c3] = some y3 := by simpa [cells22] using hg 3 _ rfl
      obtain ⟨k, hk, rfl, _⟩ := DataW.trod_int Try.underlying3 g0
      obtain ⟨t, ht, rfl, _⟩ := DataW.trod_string Try.underlying9 g1
      obtain ⟨a, ha, rfl, _⟩ := DataW.trod_int Try.underlying3 g2
      obtain rfl : c0 = .int .i64 k := by simpa using hk
      obtain rfl : c1 = .string t := by simpa using ht
      obtain rfl : c2 = .int .i64 a := by simpa using ha
      rcases DataW.trod_slice Try.underlying22 g3 with ⟨h3, rfl⟩ | ⟨ad, len, cap, elems, rest, q, rfl, h3, rfl, _, hlc, hmx, hel, hall, _, _⟩
      · obtain rfl : c3 = .slice none 0 0 := by simpa using h3
        refine ⟨.mk k t.data.toList a none 0 0 0 [], by show [_, Value.string t, _, _] = [_, Value.string (bs t.data.toList), _, _]; rw [← bs_self t]; rfl, .mk ⟨fun h => absurd h (by simp), fun h => absurd h (by simp), fun i f h => absurd h (by simp)⟩ (fun n hn => by cases hn) (Nat.le_refl _), ?_⟩
        rw [Nv.nd, ned, ndL, nedL]
        simp [Rows.uptoBulk, Rows.uptoBulkAll]
        omega
      · obtain rfl : c3 = .slice (some ad) len cap := by simpa using h3
        obtain ⟨b, off, spot⟩ := ad
        have hs0 : 0 < len → spot = none := fun h0 => by
          have h5 := hall 0 h0
          rw [List.getElem?_eq_getElem (by omega), cells24] at h5
          cases hc : w.cells? base (Addr.add ⟨b, off, spot⟩ (0 * 4)) 4 with
          | none => rw [hc] at h5; cases h5
          | some cs' =>
            obtain ⟨_, hlen', hcell⟩ := World.cells?_some hc
            have k0 := hcell 0 (by omega)
            rw [List.getElem?_eq_getElem (by omega)] at k0
            simpa [Addr.add] using World.cell?_spot k0
        have each : ∀ i, i < len → ∃ n : Nv, spot = none ∧ (∀ f, f < 4 → w.cell? ⟨b, off + i * 4 + f, none⟩ = (n.cs)[f]?) ∧ LiesD AnyD w n ∧ ∃ h : i < elems.length, ned n.nd + 4 ≤ 64 * Rows.uptoBulk (elems[i]'h).1 := fun i hi => by
          have h5 := hall i hi
          have hie : i < elems.length := by omega
          rw [List.getElem?_eq_getElem hie, cells24] at h5
          cases hc : w.cells? base (Addr.add ⟨b, off, spot⟩ (i * 4)) 4 with
          | none => rw [hc] at h5; cases h5
          | some cs' =>
            rw [hc] at h5
            obtain ⟨n, hn, hl, hb⟩ := ih q (by omega) cs' _ h5
            obtain ⟨_, hlen', hcell⟩ := World.cells?_some hc
            have hsp : spot = none := hs0 (by omega)
            subst hsp
            refine ⟨n, rfl, fun f hf => ?_, hl, hie, hb⟩
            have := hcell f hf
            rw [Addr.add_mid, Addr.add_mid, hn] at this
            exact this
        obtain ⟨ks, hkl, hp⟩ := pickL len each
        subst hkl
        refine ⟨.mk k t.data.toList a (some ⟨b, off, spot⟩) cap b off ks, by show [_, Value.string t, _, _] = [_, Value.string (bs t.data.toList), _, _]; rw [← bs_self t], .mk ⟨fun h0 => ?_, fun h0 => ⟨trivial, ?_⟩, fun i f hi hf => (hp i hi).2.1 f hf⟩ (fun n hn => ?_) hlc, ?_⟩
        · rw [(hp 0 h0).1]
        · have := (hp 0 h0).2.1 0 (by decide)
          exact block_lt_of_cell (a := ⟨b, off + 0 * 4 + 0, none⟩) (v := .int .i64 (ks[0]'h0).nd.k) (by rw [this]; obtain ⟨k', _, _, _, _, _, _, _⟩ := ks[0]'h0; rfl)
        · obtain ⟨j, hj, rfl⟩ := List.getElem_of_mem hn
          exact (hp j hj).2.2.1
        · rw [Nv.nd, ned]
          have hs := ned_sum ks (elems.map (·.1)) (by simp [hel]) (fun j h1 h2 => by
            obtain ⟨_, _, _, h5, h6⟩ := hp j h1
            rw [List.getElem_map]; exact h6)
          simp only [List.map_cons, List.map_nil, Rows.uptoBulk, Rows.uptoBulkAll]
          omega

theorem open_node {H : Type} {enc : TypeId × Value → H} {w : World} {sp : Nat → Bool} {v : Value} {d : DataW H} {p : List MemPlace} {r : Reach} {b0 : Nat}
    (hv : Value.okWide Try.prog w r b0 24 v) (h : DataW.Trod enc Try.prog w 0 sp true 24 v d p) : ∃ n : Nv, v = n.val ∧ LiesD AnyD w n ∧ ned n.nd + 4 ≤ 64 * Rows.uptoBulk d := by
  obtain ⟨fuel, hf⟩ := h
  obtain ⟨cs, rfl, _⟩ := okWide_struct Try.underlying24 hv
  obtain ⟨n, h1, h2, h3⟩ := open_trod _ _ _ hf
  refine ⟨n, ?_, h2, h3⟩
  have h1 : cs.toList = n.cs := h1
  show Value.agg cs = .agg n.cs.toArray
  rw [← h1]

end Go.Proofs.Ytgndnodahlabiaa
