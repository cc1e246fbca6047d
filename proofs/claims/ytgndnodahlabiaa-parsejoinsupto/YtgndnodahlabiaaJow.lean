/-
  A row of trees that came in; the law ParseJoins (layer 10): its walk.
-/
import Derived.Test.YtgndnodahlabiaaOpn
import Derived.Test.YtgndnodahlabiaaRfC
namespace Go.Proofs.Ytgndnodahlabiaa
open Go.ChangeShapes Go.WideShapes Go.ChangeAt Go.RowKit Go.Deep

set_option maxRecDepth 100000 in
theorem open_nodes {H : Type} {enc : TypeId × Value → H} {w : World} {sp : Nat → Bool} {v : Value} {d : DataW H} {p : List MemPlace} {r : Reach} {b0 : Nat}
    (hv : Value.okWide Try.prog w r b0 22 v) (h : DataW.Trod enc Try.prog w 0 sp true 22 v d p) : ∃ (av : Option Addr) (cap blk off : Nat) (ks : List Nv), v = .slice av ks.length cap ∧ RowD AnyD w av blk off ks ∧ (∀ n, n ∈ ks → LiesD AnyD w n) ∧ ks.length ≤ cap ∧ nedL (ndL ks) ≤ 64 * Rows.uptoBulk d := by
  obtain ⟨fuel, hf⟩ := h
  obtain ⟨a0, len, cap, rfl⟩ := okWide_slice Try.underlying22 hv
  have hf : DataW.trod enc Try.prog w 0 sp true fuel 22 [.slice a0 len cap] = some (d, p) := hf
  rcases DataW.trod_slice Try.underlying22 hf with ⟨h3, h4⟩ | ⟨ad, len', cap', elems, rest, q, rfl, h3, h4, _, hlc, hmx, hel, hall, _, _⟩
  · simp only [List.cons.injEq, Value.slice.injEq, and_true] at h3
    obtain ⟨rfl, rfl, rfl⟩ := h3
    exact ⟨none, 0, 0, 0, [], rfl, ⟨fun h => absurd h (by simp), fun h => absurd h (by simp), fun i f h => absurd h (by simp)⟩, (fun n hn => by cases hn), Nat.le_refl _, by rw [ndL, nedL]; exact Nat.zero_le _⟩
  · simp only [List.cons.injEq, Value.slice.injEq, and_true] at h3
    obtain ⟨rfl, rfl, rfl⟩ := h3
    simp only [Prod.mk.injEq] at h4
    obtain ⟨rfl, rfl⟩ := h4
    obtain ⟨b, off, spot⟩ := ad
    have hs0 : 0 < len → spot = none := fun h0 => by
      have h5 := hall 0 h0
      rw [List.getElem?_eq_getElem (by omega), cells24] at h5
      cases hc : w.cells? 0 (Addr.add ⟨b, off, spot⟩ (0 * 4)) 4 with
      | none => rw [hc] at h5; cases h5
      | some cs' =>
        obtain ⟨_, hlen', hcell⟩ := World.cells?_some hc
        have k0 := hcell 0 (by omega)
        rw [List.getElem?_eq_getElem (by omega)] at k0
        simpa [Addr.add] using World.cell?_spot k0
    have each : ∀ i, i < len → ∃ n : Nv, spot = none ∧ (∀ f, f < 4 → w.cell? ⟨b, off + i * 4 + f, none⟩ = (n.cs)[f]?) ∧ LiesD AnyD w n ∧ ∃ h : i < elems.length, ned n.nd + 4 ≤ 64 * Rows.uptoBulk (elems[i]'h).1 := fun i hi => by
      have h5 := hall i hi
      have hie : i < elems.length := by omega
      rw [List.getElem?_eq_getElem hie, cells24] at h5
      cases hc : w.cells? 0 (Addr.add ⟨b, off, spot⟩ (i * 4)) 4 with
      | none => rw [hc] at h5; cases h5
      | some cs' =>
        rw [hc] at h5
        obtain ⟨n, hn, hl, hb⟩ := open_trod q cs' _ h5
        obtain ⟨_, hlen', hcell⟩ := World.cells?_some hc
        have hsp : spot = none := hs0 (by omega)
        subst hsp
        refine ⟨n, rfl, fun f hf => ?_, hl, hie, hb⟩
        have := hcell f hf
        rw [Addr.add_mid, Addr.add_mid, hn] at this
        exact this
    obtain ⟨ks, hkl, hp⟩ := pickL len each
    subst hkl
    refine ⟨some ⟨b, off, spot⟩, cap, b, off, ks, rfl, ⟨fun h0 => by rw [(hp 0 h0).1], fun h0 => ⟨trivial, ?_⟩, fun i f hi hf => (hp i hi).2.1 f hf⟩, fun n hn => ?_, hlc, ?_⟩
    · have := (hp 0 h0).2.1 0 (by decide)
      exact block_lt_of_cell (a := ⟨b, off + 0 * 4 + 0, none⟩) (v := .int .i64 (ks[0]'h0).nd.k) (by rw [this]; obtain ⟨k', _, _, _, _, _, _, _⟩ := ks[0]'h0; rfl)
    · obtain ⟨j, hj, rfl⟩ := List.getElem_of_mem hn
      exact (hp j hj).2.2.1
    · have hs := ned_sum ks (elems.map (·.1)) (by simp [hel]) (fun j h1 h2 => by
        obtain ⟨_, _, _, h5, h6⟩ := hp j h1
        rw [List.getElem_map]; exact h6)
      simp only [Rows.uptoBulk]
      omega

theorem nd_val' (k : Int) (t : List UInt8) (a : Int) (av : Option Addr) (cap blk off : Nat) (ks : List Nv) : (Nv.mk k t a av cap blk off ks).val = .agg #[.int .i64 k, .string (bs t), .int .i64 a, .slice av ks.length cap] := rfl
mutual
theorem same_refl : ∀ n : Nd, sameB n n = true
  | .mk k t a ks => by simp [sameB, sameL_refl ks]
theorem sameL_refl : ∀ l : List Nd, sameL l l = true
  | [] => by rw [sameL]
  | n :: r => by rw [sameL, same_refl n, sameL_refl r]; rfl
end
theorem szL_at2 (ks : List Nv) (j : Nat) (h : j < ks.length) : szL (ndL (ks.take (j + 1))) = szL (ndL (ks.take j)) + (ks[j]'h).nd.sz := by
  rw [List.take_add_one, List.getElem?_eq_getElem h, ndL_append, szL_append]
  show _ + szL (ndL [ks[j]]) = _
  rw [ndL, ndL, szL, szL]; rfl

set_option maxRecDepth 100000 in
set_option maxHeartbeats 16000000 in
theorem joins_walk {av : Option Addr} {cap blk off : Nat} (ks : List Nv) (W : World) (hr : RowD AnyD W av blk off ks) (hk : ∀ n, n ∈ ks → LiesD AnyD W n) (hcap : ks.length ≤ cap) (hned : nedL (ndL ks) ≤ 2 ^ 40) :
    Calls Try.prog 6 #[.slice av ks.length cap] W fun e w' => e = .returned (.bool true) ∧ Below W.heap.size W w' := by
  have hz := szL_ned (ndL ks)
  have hln := szL_len (ndL ks)
  rw [ndL_len] at hln
  have hl0 : ks.length < 2 ^ 62 := by omega
  have hbnd : ∀ n, n ∈ ks → n.nd.bnd := fun n hn => by
    have h1 := ned_kid hn
    have h2 := sz_ned n.nd
    exact sz_bnd _ (by omega)
  have hT : ∀ j, (((txtL (ndL ks)).take j).flatMap fun s => s ++ [10]).length ≤ 2 ^ 40 := fun j => by
    have h1 := flat_tot ((txtL (ndL ks)).take j)
    have h2 := take_tot (txtL (ndL ks)) j
    have h3 := txtL_ned (ndL ks)
    omega
  have hSZ : ∀ j, szL (ndL (ks.take j)) ≤ 2 ^ 40 := fun j => by have := szL_take ks j; omega
  have hP : LiesD AnyD W (.mk 1 [] 0 av cap blk off ks) := .mk hr hk hcap
  have hPn : ned (Nv.mk 1 [] 0 av cap blk off ks).nd ≤ 2 ^ 41 := by rw [Nv.nd, ned]; simp only [List.length_nil]; omega
  have hPs : (Nv.mk 1 [] 0 av cap blk off ks).nd.sz = szL (ndL ks) + 1 := by rw [Nv.nd, Nd.sz]
  have hPt : txt (Nv.mk 1 [] 0 av cap blk off ks).nd = (txtL (ndL ks)).flatMap fun s => s ++ [10] := by
    rw [Nv.nd, txt]
    unfold nodeT
    rw [show leastK 1 = some 0 by decide]
    simp
  have hPq := same_refl (Nv.mk 1 [] 0 av cap blk off ks).nd
  have HR := hidW (And.intro hr (And.intro hk hbnd))
  have HP := hidW (And.intro hP (And.intro hPn (And.intro hPs (And.intro hPt hPq))))
  have HT := hidW (And.intro hT hSZ)
  have HNED := hidW (And.intro hned hz)
  have HS := hidW (small_is W)
  have HLT := hidW (show (txtL (ndL ks)).length = ks.length by rw [txtL_len, ndL_len])
  clear hr hk hbnd hT hSZ hP hPn hPs hPt hPq hned hz
  clear hln
  generalize hll : txtL (ndL ks) = l at *
  have HL := hidW hll
  clear hll
  generalize hn0 : ks.length = n0 at *
  have HN0 := hidW hn0
  clear hn0
  go_enter Try.func6, Try.ntmps6
  go_wp2_with fail
  refine HS.out.mono ?_
  clear HS
  rintro e V1 ⟨rfl, hb1⟩
  have HB1 := hidW hb1
  clear hb1
  go_wp2_with fail
  go_loopw [4, 5, 6] (fun s q i wr => ∃ (j : Nat), i = .int .i64 (j : Int) ∧ s = .string (bs ((l.take j).flatMap fun s => s ++ [10])) ∧ q = .int .i64 ((szL (ndL (ks.take j)) + 1 : Nat) : Int) ∧ j ≤ n0 ∧ j ≤ 20 ∧ Below V1.heap.size V1 wr) (fun _ _ i _ => n0 - (intOf i).toNat)
  case atStart => exact ⟨0, rfl, by rw [List.take_zero]; rfl, by rw [List.take_zero]; rfl, Nat.zero_le _, Nat.zero_le _, Below.refl _ _⟩
  case round =>
    obtain ⟨j, rfl, rfl, rfl, hj, hj20, hb⟩ := hrel
    have hc := HT.out.1 j
    have hd := HT.out.2 j
    have hbt := bel_two HB1.out hb
    by_cases h1 : j < n0
    · have e1 : ((j : Int) < (n0 : Int)) = True := eq_true (by omega)
      by_cases h20 : j < 20
      · have e2 : ((j : Int) < 20) = True := eq_true (by omega)
        have hjk : j < ks.length := by have := HN0.out; omega
        obtain ⟨x, hx⟩ : ∃ x, ks[j]'hjk = x := ⟨_, rfl⟩
        have hxm : x ∈ ks := hx ▸ List.getElem_mem hjk
        have htx : l.getD j [] = txt x.nd := by rw [← HL.out]; exact txt_at hjk hx
        have hxn := ned_kid hxm
        have hxl := txt_ned x.nd
        have hxz := sz_ned x.nd
        have hbx := HR.out.2.2 x hxm
        have hsz := szL_at2 ks j hjk
        rw [hx] at hsz
        have hST : (l.take (j + 1)).flatMap (fun s => s ++ [10]) = ((l.take j).flatMap fun s => s ++ [10]) ++ txt x.nd ++ [10] := by
          have hjl : j < l.length := by have := HLT.out; omega
          rw [List.take_add_one, List.getElem?_eq_getElem hjl, List.flatMap_append]
          rw [List.getD_eq_getElem?_getD, List.getElem?_eq_getElem hjl] at htx
          simp only [Option.getD_some] at htx
          rw [htx]
          simp
        have hrx := fun V (hV : Below W.heap.size W V) => HR.out.1.turns (turns_b (Q := fun _ => False) hV) (fun _ _ _ h => h)
        have hlx := fun V (hV : Below W.heap.size W V) => (HR.out.2.1 x hxm).turns (turns_b (Q := fun _ => False) hV) (fun _ _ _ h => h)
        obtain rfl := HR.out.1.at_ (by omega)
        obtain ⟨xk, xt, xa, xav, xcap, xblk, xoff, xks⟩ := x
        have HC := hidW (fun V hV => (hrx V hV).kid hjk hx)
        have HF := hidW (fun V hV => few_is (.mk xk xt xa xav xcap xblk xoff xks) V _ (hlx V hV) hbx)
        have HTX := hidW (fun V hV => text_of (.mk xk xt xa xav xcap xblk xoff xks) V _ (hlx V hV) hbx (by have := HNED.out; omega))
        have HSZ := hidW (fun V hV => size_is (.mk xk xt xa xav xcap xblk xoff xks) V _ (hlx V hV) (by have := HNED.out; omega))
        have hx40 : (txt (Nv.mk xk xt xa xav xcap xblk xoff xks).nd).length ≤ 2 ^ 40 := by have := HNED.out; omega
        have hz40 : (Nv.mk xk xt xa xav xcap xblk xoff xks).nd.sz ≤ 2 ^ 40 := by have := HNED.out; omega
        generalize txt (Nv.mk xk xt xa xav xcap xblk xoff xks).nd = tx at *
        generalize (Nv.mk xk xt xa xav xcap xblk xoff xks).nd.sz = xz at *
        generalize few (Nv.mk xk xt xa xav xcap xblk xoff xks).nd = fw at *
        generalize ((l.take j).flatMap fun s => s ++ [10]) = c at *
        generalize szL (ndL (ks.take j)) = y at *
        have hs1 : ¬ 9223372036854775807 < (bs c).size + (bs tx).size := by rw [bs_size, bs_size]; omega
        have hs2 : ¬ 9223372036854775807 < (bs c ++ bs tx).size + 1 := by rw [← bs_app, bs_size, List.length_append]; omega
        have hs3 : ¬ 9223372036854775807 < (bs c).size + (bs tx).size + 1 := by rw [bs_size, bs_size]; omega
        have HE := hidW (show bs c ++ bs tx ++ bs [10] = bs ((l.take (j + 1)).flatMap fun s => s ++ [10]) from by rw [hST, bs_app, bs_app])
        have HZ := hidW hsz
        have HBT := hidW hbt
        have HBV := hidW hb
        clear hx hxm htx hxn hxl hxz hbx hsz hST hrx hlx hbt hb hc
        obtain ⟨k0, k1, k2, k3⟩ := HC.out _ HBT.out
        have HF1 := hidW (HF.out _ HBT.out)
        clear HF
        go_wp2_with fail
        refine HF1.out.mono ?_; clear HF1 k0 k1 k2 k3; rintro e W2 ⟨rfl, hb2⟩
        have HBT2 := hidW (bel_two HBT.out hb2)
        have HBV2 := hidW (bel_two HBV.out hb2)
        clear hb2 HBT HBV
        cases fw with
        | false =>
          go_wp2
          go_ret
          exact ⟨rfl, HBT2.out⟩
        | true =>
          obtain ⟨k0, k1, k2, k3⟩ := HC.out _ HBT2.out
          have HF1 := hidW (HTX.out _ HBT2.out)
          clear HTX
          go_wp2_with fail
          refine HF1.out.mono ?_; clear HF1 k0 k1 k2 k3; rintro e W3 ⟨rfl, hb3⟩
          have HBT3 := hidW (bel_two HBT2.out hb3)
          have HBV3 := hidW (bel_two HBV2.out hb3)
          clear hb3 HBT2 HBV2
          obtain ⟨k0, k1, k2, k3⟩ := HC.out _ HBT3.out
          have HF1 := hidW (HSZ.out _ HBT3.out)
          clear HSZ
          go_wp2_with fail
          refine HF1.out.mono ?_; clear HF1 k0 k1 k2 k3; rintro e W4 ⟨rfl, hb4⟩
          have HBV4 := hidW (bel_two HBV3.out hb4)
          clear hb4 HBT3 HBV3
          go_wp2_with fail
          go_roundw
          case rel => exact ⟨j + 1, by go_num, congrArg Value.string HE.out, by rw [HZ.out]; go_num, by omega, by omega, HBV4.out⟩
          case measure => simp [intOf]; omega
      · have e2 : ((j : Int) < 20) = False := eq_false (by omega)
        have h20' : j = 20 := by omega
        have e3 : ((20 : Int) < (n0 : Int)) = True := eq_true (by omega)
        have HBT := hidW hbt
        clear hb hbt hc hd h20'
        go_wp2
        go_ret
        exact ⟨rfl, HBT.out⟩
    · have e1 : ((j : Int) < (n0 : Int)) = False := eq_false (by omega)
      have e3 : ((20 : Int) < (n0 : Int)) = False := eq_false (by omega)
      have hjn : j = ks.length := by have := HN0.out; omega
      have hcl : (l.take j).flatMap (fun s => s ++ [10]) = txt (Nv.mk 1 [] 0 av cap blk off ks).nd := by rw [List.take_of_length_le (by have := HLT.out; have := HN0.out; omega), HP.out.2.2.2.1]
      have hdl : szL (ndL (ks.take j)) + 1 = (Nv.mk 1 [] 0 av cap blk off ks).nd.sz := by rw [hjn, List.take_length, HP.out.2.2.1]
      have hzb : (Nv.mk 1 [] 0 av cap blk off ks).nd.sz ≤ 2 ^ 41 := by rw [← hdl]; omega
      have hLp := HP.out.1.turns (turns_b (Q := fun _ => False) hbt) (fun _ _ _ h => h)
      have hbp := sz_bnd (Nv.mk 1 [] 0 av cap blk off ks).nd (by omega)
      have N5 := NodB.new hLp
      rw [HN0.out] at N5
      have HB5 := hidW (bel_two hbt (bel_new wr (.cells #[.int .i64 1, .string (bs []), .int .i64 0, .slice av n0 cap] 24)))
      have HX1 := hidW (text_of (.mk 1 [] 0 av cap blk off ks) _ _ N5.li hbp (by have := HP.out.2.1; omega))
      have HY1 := hidW (fun V (hV : Below (wr.alloc (.cells #[.int .i64 1, .string (bs []), .int .i64 0, .slice av n0 cap] 24)).heap.size (wr.alloc (.cells #[.int .i64 1, .string (bs []), .int .i64 0, .slice av n0 cap] 24)) V) => size_is (.mk 1 [] 0 av cap blk off ks) V _ (N5.below hV).li (by omega))
      have hZ1 := fun V (hV : Below (wr.alloc (.cells #[.int .i64 1, .string (bs []), .int .i64 0, .slice av n0 cap] 24)).heap.size (wr.alloc (.cells #[.int .i64 1, .string (bs []), .int .i64 0, .slice av n0 cap] 24)) V) => tsame_is (.mk 1 [] 0 av cap blk off ks) (.mk 1 [] 0 av cap blk off ks) V _ (N5.below hV).li (N5.below hV).li hbp hbp
      rw [HP.out.2.2.2.2] at hZ1
      have HZ1 := hidW hZ1
      rw [hcl, hdl]
      have HN5 := hidW N5
      have hcc := N5.cells
      rw [HN0.out] at hcc
      obtain ⟨c0, c1, c2, c3⟩ := hcc
      have hcc2 := fun V hV => (N5.below (V' := V) hV).cells
      rw [HN0.out] at hcc2
      have HCC := hidW hcc2
      have hv : (Nv.mk 1 [] 0 av cap blk off ks).val = .agg #[.int .i64 1, .string (bs []), .int .i64 0, .slice av n0 cap] := by rw [nd_val', HN0.out]
      rw [hv] at HX1 HY1 HZ1
      generalize txt (Nv.mk 1 [] 0 av cap blk off ks).nd = tp at *
      generalize (Nv.mk 1 [] 0 av cap blk off ks).nd.sz = zp at *
      have g1 : ((bs tp).toList == (bs tp).toList) = true := by simp
      have g2 : ((zp : Int) == (zp : Int)) = true := by simp
      clear hc hd hbt hb hcl hdl hzb hLp hbp N5 hcc2 hZ1 hjn HN5 hv h1 HR HP HT HNED HLT HL HN0
      go_wp2_with fail
      refine HX1.out.mono ?_; clear HX1 c0 c1 c2 c3; rintro e U1 ⟨rfl, hu1⟩
      obtain ⟨c0, c1, c2, c3⟩ := HCC.out _ hu1
      have HC := hidW (HY1.out _ hu1)
      have HU1 := hidW hu1
      clear HY1 hu1
      go_wp2_with fail
      refine HC.out.mono ?_; clear HC c0 c1 c2 c3; rintro e U2 ⟨rfl, hu2⟩
      have HU2 := hidW (bel_two HU1.out hu2)
      clear hu2
      obtain ⟨c0, c1, c2, c3⟩ := HCC.out _ HU2.out
      have HC := hidW (HZ1.out _ HU2.out)
      clear HZ1
      go_wp2_with fail
      refine HC.out.mono ?_; clear HC c0 c1 c2 c3; rintro e U3 ⟨rfl, hu3⟩
      have HU3 := hidW (bel_two HB5.out (bel_two HU2.out hu3))
      clear hu3
      go_wp2
      go_ret
      exact ⟨rfl, HU3.out⟩

end Go.Proofs.Ytgndnodahlabiaa
