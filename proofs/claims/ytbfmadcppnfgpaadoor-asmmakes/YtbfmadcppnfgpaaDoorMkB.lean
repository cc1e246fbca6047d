/-
  The document's own Places (layer 5): labels are put in one by one.
-/
import Derived.Test.YtbfmadcppnfgpaaDoorMkQ
namespace Go.Proofs.YtbfmadcppnfgpaaDoor
open Go.ChangeShapes Go.WideShapes Go.ChangeAt Go.RowKit

set_option maxRecDepth 100000 in
set_option maxHeartbeats 20000000 in
theorem refplaces_is (av : Option Addr) (cap blk off : Nat) (ls : List Ln) (w : World) (hl : ls.length ≤ 100000) (hin : IsLines w av blk off ls) :
    Calls Tryd.prog 11 #[.slice av ls.length cap] w (RPl ls w) := by
  have HIN : Hid (IsLines w av blk off ls) := hin
  clear hin
  generalize hn : ls.length = n at *
  have HN : Hid (ls.length = n) := hn
  clear hn
  go_enter Tryd.func11, Tryd.ntmps11
  go_wp2
  go_loopw [4] (fun i wr => ∃ k : Nat, i = .int .i64 k ∧ k ≤ n ∧ (∀ j (hj : j < ls.length), j < k → (ls[j]'hj).right = true) ∧ Below w.heap.size w wr) (fun i _ => n - (intOf i).toNat)
  case atStart => exact ⟨0, rfl, Nat.zero_le _, fun j _ h => absurd h (Nat.not_lt_zero j), Below.refl _ _⟩
  case round =>
    obtain ⟨k, rfl, hk, hrt, hbr⟩ := hrel
    by_cases hlt : k < n
    · have e1 : ((k : Int) < (n : Int)) = True := eq_true (by omega)
      have hkl : k < ls.length := by rw [HN.out]; exact hlt
      have hinr := HIN.out.later hbr
      obtain rfl := HIN.out.at_ (by omega)
      obtain ⟨c0, c1, c2, c3, c4, c5, c6⟩ := hinr.has k hkl
      have HR : Hid (Calls Tryd.prog 28 #[.agg #[.int .i64 (ls[k]'hkl).L, .int .i64 (ls[k]'hkl).o, .int .i64 (ls[k]'hkl).a, .int .i64 (ls[k]'hkl).b, .int .i64 (ls[k]'hkl).c, .int .i64 (ls[k]'hkl).i, .int .i64 (ls[k]'hkl).t]] wr fun e w' => e = .returned (.bool (ls[k]'hkl).right) ∧ Below wr.heap.size wr w') := refrightL_any _ _
      have HRT : Hid (∀ j (hj : j < ls.length), j < k → (ls[j]'hj).right = true) := hrt
      have HLT : Hid (k < n) := hlt
      have HBR : Hid (Below w.heap.size w wr) := hbr
      have HM : Hid ((ls[k]'hkl).right = false → ∃ x ∈ ls, x.right = false) := fun h => ⟨_, List.getElem_mem hkl, h⟩
      have HM2 : Hid ((ls[k]'hkl).right = true → ∀ j (hj : j < ls.length), j < k + 1 → (ls[j]'hj).right = true) := fun h j hj hjk => by
        by_cases e : j = k
        · subst e; exact h
        · exact hrt j hj (by omega)
      clear hrt hlt hbr hinr
      generalize (ls[k]'hkl).right = b at *
      generalize (ls[k]'hkl).L = xL at *
      generalize (ls[k]'hkl).o = xo at *
      generalize (ls[k]'hkl).a = xa at *
      generalize (ls[k]'hkl).b = xb at *
      generalize (ls[k]'hkl).c = xc at *
      generalize (ls[k]'hkl).i = xi at *
      generalize (ls[k]'hkl).t = xt at *
      have hkb : k ≤ 100000 := by omega
      clear hkl
      go_wp2_with fail
      refine HR.out.mono ?_
      clear HR
      rintro e w2 ⟨rfl, hb2⟩
      have HB2 : Hid (Below w.heap.size w w2) := HBR.out.trans (hb2.mono HBR.out.size)
      clear hb2 c0 c1 c2 c3 c4 c5 c6
      cases b with
      | false =>
        go_wp2_with fail
        go_ret2
        exact ⟨HB2.out, .inl ⟨1, .wrong (HM.out (by trivial)), rfl⟩⟩
      | true =>
        go_wp2_with fail
        go_roundw
        case rel => exact ⟨k + 1, by go_num, HLT.out, HM2.out (by trivial), HB2.out⟩
        case measure => have := HLT.out; simp [intOf]; omega
    · have e1 : ((k : Int) < (n : Int)) = False := eq_false (by omega)
      have HRT : Hid (∀ x ∈ ls, x.right = true) := fun x hx => by
        obtain ⟨j, hj, rfl⟩ := List.mem_iff_getElem.1 hx
        exact hrt j hj (by have := HN.out; omega)
      have HBR : Hid (Below w.heap.size w wr) := hbr
      clear hrt hlt hbr hk
      go_wp2
      clear e1
      generalize hW0 : wr = W0 at *
      clear hW0
      go_loopw [7, 6] (fun i o wr => ∃ (q : Nat) (ts : List Int), i = .int .i64 q ∧ q ≤ n ∧ Rise ls q ts ∧ wr.ownsRow w.heap.size 46 2 o ts.length ((prs ls ts).flatMap pcells) ∧ Below w.heap.size w wr) (fun i _ _ => n - (intOf i).toNat)
      case atStart => exact ⟨0, [], rfl, Nat.zero_le _, Rise.zero ls, World.ownsRow_nil _ _ _ _, HBR.out⟩
      case round =>
        obtain ⟨q, ts, rfl, hq, hRi, hO, hbr⟩ := hrel
        obtain ⟨ov, oc, rfl, hoc1, hoc2⟩ := owns_shape hO
        by_cases hlt : q < n
        · have e1 : ((q : Int) < (n : Int)) = True := eq_true (by omega)
          have hql : q < ls.length := by rw [HN.out]; exact hlt
          have hinr := HIN.out.later hbr
          obtain rfl := HIN.out.at_ (by omega)
          have hblk := HIN.out.lt (by omega)
          have c0 := (hinr.has q hql).c0
          have HLT : Hid (q < n) := hlt
          have HBr : Hid (Below w.heap.size w wr) := hbr
          have HO : Hid (wr.ownsRow w.heap.size 46 2 (.slice ov ts.length oc) ts.length ((prs ls ts).flatMap pcells)) := hO
          have HRi : Hid (Rise ls q ts) := hRi
          have hqb : q ≤ 100000 := by omega
          have hpl : (prs ls ts).length = ts.length := by simp [prs]
          have htl : ts.length ≤ n := by
            have h1 := tab_len ls q (by omega)
            have h2 : ts.length = (tab ls q).length := by
              have := (List.perm_ext_iff_of_nodup (hRi.up.imp fun h => Int.ne_of_lt h) hRi.once).2 hRi.mem
              rw [this.length_eq, List.length_map]
            omega
          have HPC : Hid (∀ g, ov = some ⟨g, 0, none⟩ → ∀ j (hj : j < ts.length), wr.cell? ⟨g, j * 2, none⟩ = some (.int .i64 (ts[j]'hj)) ∧ wr.cell? ⟨g, j * 2 + 1, none⟩ = some (.int .i64 (placeR ls (ts[j]'hj)))) := fun g hg j hj => by
            have hO2 := hO
            rw [← hpl] at hO2
            have := (own_piece hO2).2 g hg j (by omega)
            simpa [prs] using this
          have HOV : Hid (0 < ts.length → ∃ g, ov = some ⟨g, 0, none⟩ ∧ w.heap.size ≤ g ∧ g < wr.heap.size) := fun h0 => by
            have hO2 := hO
            rw [← hpl] at hO2
            exact (own_piece hO2).1 (by omega)
          have HIR : Hid (IsLines wr (some ⟨blk, off, none⟩) blk off ls) := hinr
          have hblk' : blk < wr.heap.size := Nat.lt_of_lt_of_le hblk hbr.size
          clear hinr hbr hO hlt hblk
          by_cases hz : (ls[q]'hql).L = 0
          · have HZ : Hid (Rise ls (q + 1) ts) := HRi.out.inst hql hz
            have e2 : ((ls[q]'hql).L == 0) = true := by simp [hz]
            generalize (ls[q]'hql).L = L at *
            clear hz hRi
            go_wp2
            go_roundw
            case rel => exact ⟨q + 1, ts, by go_num, HLT.out, HZ.out, HO.out, HBr.out⟩
            case measure => have := HLT.out; simp [intOf]; omega
          · have e2 : ((ls[q]'hql).L == 0) = false := by rw [beq_eq_false_iff_ne]; exact hz
            have HPUT : Hid (∀ k (hk : k ≤ ts.length), (∀ j (hj : j < k), (ts[j]'(by omega)) < (ls[q]'hql).L) → (∀ hk' : k < ts.length, (ls[q]'hql).L < ts[k]'hk') → Rise ls (q + 1) (ts.take k ++ (ls[q]'hql).L :: ts.drop k)) := fun k hk h1 h2 => hRi.put hql hz k hk h1 h2
            have HDUP : Hid (∀ j (hj : j < ts.length), ts[j]'hj = (ls[q]'hql).L → ¬ (labs ls).Nodup) := fun j hj he => twice_of ls q hql hz ((hRi.mem _).1 (by rw [← he]; exact List.getElem_mem hj))
            generalize (ls[q]'hql).L = L at *
            clear hz hRi
            go_wp2
            clear e2
            generalize hW1 : wr = W1 at *
            clear hW1
            generalize hm : ts.length = m at HO htl hoc1 ⊢
            have HM : Hid (ts.length = m) := hm
            clear hm
            go_loopw [8] (fun k W => ∃ j d : Nat, k = .int .i64 j ∧ j ≤ m ∧ (∀ i (hi : i < ts.length), i < j → (ts[i]'hi) < L) ∧ W = W1.drewN d) (fun k _ => m - (intOf k).toNat)
            case atStart => exact ⟨0, 0, rfl, Nat.zero_le _, fun i _ h => absurd h (Nat.not_lt_zero i), rfl⟩
            case round =>
              obtain ⟨j, d, rfl, hj, hless, rfl⟩ := hrel
              have hmb : m ≤ 100000 := by omega
              have HLESS : Hid (∀ i (hi : i < ts.length), i < j → (ts[i]'hi) < L) := hless
              clear hless
              by_cases hjm : j < m
              · have e3 : ((j : Int) < (m : Int)) = True := eq_true (by omega)
                have hjt : j < ts.length := by rw [HM.out]; exact hjm
                obtain ⟨g, rfl, hg1, hg2⟩ := HOV.out (by omega)
                obtain ⟨p0, p1⟩ := HPC.out g rfl j hjt
                have HJM : Hid (j < m) := hjm
                by_cases hlj : (ts[j]'hjt) < L
                · have e4 : ((ts[j]'hjt) < L) = True := eq_true hlj
                  have HLJ : Hid (∀ i (hi : i < ts.length), i < j + 1 → (ts[i]'hi) < L) := fun i hi hij => by
                    by_cases e : i = j
                    · subst e; exact hlj
                    · exact HLESS.out i hi (by omega)
                  generalize ts[j]'hjt = tj at *
                  clear hlj
                  go_wp2
                  go_quiet (fail)
                  go_wp2
                  go_roundw
                  case rel => exact ⟨j + 1, d + nq, by go_num, HJM.out, HLJ.out, rfl⟩
                  case measure => have := HJM.out; simp [intOf]; omega
                · have e4 : ((ts[j]'hjt) < L) = False := eq_false hlj
                  by_cases hej : (ts[j]'hjt) = L
                  · have HD : Hid (¬ (labs ls).Nodup) := HDUP.out j hjt hej
                    have e5 : ((ts[j]'hjt) == L) = true := by simp [hej]
                    generalize ts[j]'hjt = tj at *
                    clear hlj hej
                    go_wp2
                    go_quiet (fail)
                    go_wp2
                    go_quiet (fail)
                    go_wp2
                    go_ret2
                    exact ⟨below_drewN (below_drewN (below_drewN HBr.out _) _) _, .inl ⟨4, .twice HRT.out HD.out, rfl⟩⟩
                  · have e5 : ((ts[j]'hjt) == L) = false := by rw [beq_eq_false_iff_ne]; exact hej
                    have HPU : Hid (Rise ls (q + 1) (ts.take j ++ L :: ts.drop j)) := HPUT.out j (by omega) (fun i hi => HLESS.out i (by omega) hi) (fun hk' => by omega)
                    generalize ts[j]'hjt = tj at *
                    clear hlj hej
                    go_wp2
                    go_quiet (fail)
                    have hb2 : Below W1.heap.size W1 ((W1.drewN d).drewN nq) := below_drewN (below_drewN (Below.refl _ _) _) _
                    generalize (W1.drewN d).drewN nq = W2 at *
                    have p0 := (hb2.cell (p := ⟨g, j * 2, none⟩) hg2).trans p0
                    have c0 := (hb2.cell (p := ⟨blk, off + q * 7, none⟩) hblk').trans c0
                    have HB2 : Hid (Below W1.heap.size W1 W2) := hb2
                    clear hb2
                    go_wp2
                    go_quiet (fail)
                    have hb3 : Below W1.heap.size W1 (W2.drewN nq) := below_drewN HB2.out _
                    generalize W2.drewN nq = W3 at *
                    have c0 := (hb3.cell (p := ⟨blk, off + q * 7, none⟩) hblk').trans (by assumption : W1.cell? ⟨blk, off + q * 7, none⟩ = some (.int .i64 L))
                    have HB3 : Hid (Below W1.heap.size W1 W3) := hb3
                    clear hb3 HB2 p0 p1 e5 e4 e3
                    have hO3 := owns_below HO.out HB3.out
                    have hplm : (prs ls ts).length = m := by rw [← HM.out]; simp [prs]
                    rw [← hplm] at hO3
                    obtain ⟨v1, W4, ha1, hb1, hrest⟩ := ins_runs W3 _ (some ⟨g, 0, none⟩) oc (prs ls ts) hO3 j (by omega) (by omega) (L, placeR ls L)
                    obtain ⟨v2, W6, ha2, hb6, hrest2⟩ := hrest W4.drew ⟨rfl, rfl, rfl, Nat.le_refl _, fun _ _ => rfl⟩ rfl
                    have hw1s := HB3.out.size
                    have s1 : W4.drew.cell? ⟨blk, off + q * 7, none⟩ = some (.int .i64 L) := ((hb1.trans (⟨rfl, rfl, rfl, Nat.le_refl _, fun _ _ => rfl⟩ : Below W3.heap.size W4 W4.drew)).cell (p := ⟨blk, off + q * 7, none⟩) (by show blk < _; omega)).trans c0
                    have s2 : (W4.drew.alloc (.cells #[.int .i64 L, .int .i64 (placeR ls L)] 46)).cell? ⟨blk, off + q * 7, none⟩ = some (.int .i64 L) := (((Below.refl W4.drew.heap.size W4.drew).alloc (Nat.le_refl _) _).cell (p := ⟨blk, off + q * 7, none⟩) (by have := hb1.size; show blk < W4.heap.size; omega)).trans s1
                    have s3 : W6.cell? ⟨blk, off + q * 7, none⟩ = some (.int .i64 L) := (hb6.cell (p := ⟨blk, off + q * 7, none⟩) (by show blk < _; omega)).trans c0
                    have c0' : W4.cell? ⟨blk, off + q * 7, none⟩ = some (.int .i64 L) := s1
                    have HPL : Hid (Calls Tryd.prog 25 #[.slice (some ⟨blk, off, none⟩) n cap, .int .i64 L] W4.drew fun e w' => e = .returned (.int .i64 (placeR ls L)) ∧ w' = W4.drew) := by
                      have := place_is (some ⟨blk, off, none⟩) cap blk off ls L W4.drew (by rw [HN.out]; omega) (HIR.out.later (HB3.out.trans ((hb1.mono hw1s).trans ⟨rfl, rfl, rfl, Nat.le_refl _, fun _ _ => rfl⟩)))
                      rwa [HN.out] at this
                    have HA1 : Hid ((Builtin.append_ #[28, 28] 28 #[.slice none 0 0, .slice (some ⟨g, 0, none⟩) j oc]).run Tryd.prog W3 = .ok v1 W4) := ha1
                    have HA2 : Hid ((Builtin.append_ #[28, 28] 28 #[v1, .slice (some ⟨W4.heap.size, 0, none⟩) 1 1]).run Tryd.prog (W4.drew.alloc (.cells #[.int .i64 L, .int .i64 (placeR ls L)] 46)) = .ok v2 W6) := ha2
                    have HR2 : Hid (∀ (av2 : Option Addr) (c2 : Nat), (j < m → ∀ g', ((some ⟨g, 0, none⟩) : Option Addr) = some ⟨g', 0, none⟩ → av2 = some ⟨g', j * 2, none⟩) → ∃ v3 W7, (Builtin.append_ #[28, 28] 28 #[v2, .slice av2 (m - j) c2]).run Tryd.prog W6 = .ok v3 W7 ∧ Below W3.heap.size W3 W7 ∧ ∃ av3 c3, v3 = .slice av3 (m + 1) c3 ∧ W7.ownsRow w.heap.size 46 2 v3 (m + 1) ((prs ls (ts.take j ++ L :: ts.drop j)).flatMap pcells)) := fun av2 c2 h => by
                      obtain ⟨v3, W7, a1, a2, a3⟩ := hrest2 av2 c2 (fun h1 => h (by omega))
                      rw [hplm] at a1 a3
                      obtain ⟨av3, c3, rfl, _⟩ := owns_shape a3
                      refine ⟨_, W7, a1, a2, av3, c3, rfl, ?_⟩
                      have hcs : (prs ls ts).take j ++ (L, placeR ls L) :: (prs ls ts).drop j = prs ls (ts.take j ++ L :: ts.drop j) := by simp [prs, List.map_take, List.map_drop]
                      rw [hcs] at a3
                      exact ⟨a3.1, a3.2.elim .inl (fun ⟨g, cap, cur, b1, b2, b3⟩ => .inr ⟨g, cap, cur, b1, by have := HBr.out.size; omega, b3⟩)⟩
                    have HB6 : Hid (Below W3.heap.size W3 W6) := hb6
                    clear ha1 ha2 hrest hrest2 hO3 hb1 hb6 hplm
                    generalize placeR ls L = P at *
                    go_wp2_with (at_builtin; refine wpList_append_run rfl _ _ 28 rfl rfl rfl HA1.out ?_)
                    go_region_held3 (fun W => W.cell? ⟨blk, off + q * 7, none⟩ = some (.int .i64 L)) (first | exact s1 | exact s2 | exact s3) (first | (go_at_call 25; refine HPL.out.mono ?_; rintro e wz ⟨rfl, rfl⟩) | refine step_append rfl (.tmp 76) (.tmp 90) 28 rfl rfl rfl HA2.out ?_)
                    obtain ⟨v3, W7, ha3, hb7, av3, c3, rfl, ho7⟩ := HR2.out (some ⟨g, j * 2, none⟩) (oc - j) (fun _ g2 e => by injection e with e; injection e with e; rw [e])
                    have HA3 : Hid ((Builtin.append_ #[28, 28] 28 #[v2, .slice (some ⟨g, j * 2, none⟩) (m - j) (oc - j)]).run Tryd.prog W6 = .ok (.slice av3 (m + 1) c3) W7) := ha3
                    have hl' : (ts.take j ++ L :: ts.drop j).length = m + 1 := by have := HM.out; simp; omega
                    have HF : Hid (W7.ownsRow w.heap.size 46 2 (.slice av3 (m + 1) c3) (ts.take j ++ L :: ts.drop j).length ((prs ls (ts.take j ++ L :: ts.drop j)).flatMap pcells) ∧ Below w.heap.size w W7) := ⟨by rw [hl']; exact ho7, HBr.out.trans ((HB3.out.trans (hb7.mono HB3.out.size)).mono HBr.out.size)⟩
                    clear ha3 ho7 hb7 hl'
                    go_wp2_with (at_builtin; refine wpList_append_run rfl _ _ 28 rfl rfl rfl HA3.out ?_)
                    go_roundw
                    case rel => exact ⟨q + 1, _, by go_num, HLT.out, HPU.out, HF.out.1, HF.out.2⟩
                    case measure => have := HLT.out; simp [intOf]; omega
              · have e3 : ((j : Int) < (m : Int)) = False := eq_false (by omega)
                obtain rfl : j = m := by omega
                have HPU : Hid (Rise ls (q + 1) (ts.take j ++ L :: ts.drop j)) := HPUT.out j (by have := HM.out; omega) (fun i hi => HLESS.out i (by have := HM.out; omega) hi) (fun hk' => by have := HM.out; omega)
                have hsh : (ov = none ∧ oc = 0 ∧ j = 0) ∨ ∃ g, ov = some ⟨g, 0, none⟩ := by
                  rcases HO.out.2 with ⟨e, h0⟩ | ⟨g, c1, cur, e, _⟩
                  · injection e with e1 e2 e3; exact .inl ⟨e1, e3, h0⟩
                  · injection e with e1 e2 e3; exact .inr ⟨g, e1⟩
                go_wp2
                go_quiet (fail)
                have hb2 : Below W1.heap.size W1 ((W1.drewN d).drewN nq) := below_drewN (below_drewN (Below.refl _ _) _) _
                generalize (W1.drewN d).drewN nq = W2 at *
                have HB2 : Hid (Below W1.heap.size W1 W2) := hb2
                clear hb2
                go_wp2
                go_quiet (fail)
                have hb3 : Below W1.heap.size W1 (W2.drewN nq) := below_drewN HB2.out _
                generalize W2.drewN nq = W3 at *
                have c0 := (hb3.cell (p := ⟨blk, off + q * 7, none⟩) hblk').trans (by assumption : W1.cell? ⟨blk, off + q * 7, none⟩ = some (.int .i64 L))
                have HB3 : Hid (Below W1.heap.size W1 W3) := hb3
                clear hb3 HB2 e3
                have hcA := cut_head ov oc j hsh hoc1
                obtain ⟨av2, c2, hcB⟩ := cut_tail ov oc j hsh hoc1
                clear hsh
                have hO3 := owns_below HO.out HB3.out
                have hplm : (prs ls ts).length = j := by rw [← HM.out]; simp [prs]
                rw [← hplm] at hO3
                obtain ⟨v1, W4, ha1, hb1, hrest⟩ := ins_runs W3 _ ov oc (prs ls ts) hO3 j (by omega) (by omega) (L, placeR ls L)
                obtain ⟨v2, W6, ha2, hb6, hrest2⟩ := hrest W4.drew ⟨rfl, rfl, rfl, Nat.le_refl _, fun _ _ => rfl⟩ rfl
                have hw1s := HB3.out.size
                have s1 : W4.drew.cell? ⟨blk, off + q * 7, none⟩ = some (.int .i64 L) := ((hb1.trans (⟨rfl, rfl, rfl, Nat.le_refl _, fun _ _ => rfl⟩ : Below W3.heap.size W4 W4.drew)).cell (p := ⟨blk, off + q * 7, none⟩) (by show blk < _; omega)).trans c0
                have s2 : (W4.drew.alloc (.cells #[.int .i64 L, .int .i64 (placeR ls L)] 46)).cell? ⟨blk, off + q * 7, none⟩ = some (.int .i64 L) := (((Below.refl W4.drew.heap.size W4.drew).alloc (Nat.le_refl _) _).cell (p := ⟨blk, off + q * 7, none⟩) (by have := hb1.size; show blk < W4.heap.size; omega)).trans s1
                have s3 : W6.cell? ⟨blk, off + q * 7, none⟩ = some (.int .i64 L) := (hb6.cell (p := ⟨blk, off + q * 7, none⟩) (by show blk < _; omega)).trans c0
                have c0' : W4.cell? ⟨blk, off + q * 7, none⟩ = some (.int .i64 L) := s1
                have HPL : Hid (Calls Tryd.prog 25 #[.slice (some ⟨blk, off, none⟩) n cap, .int .i64 L] W4.drew fun e w' => e = .returned (.int .i64 (placeR ls L)) ∧ w' = W4.drew) := by
                  have := place_is (some ⟨blk, off, none⟩) cap blk off ls L W4.drew (by rw [HN.out]; omega) (HIR.out.later (HB3.out.trans ((hb1.mono hw1s).trans ⟨rfl, rfl, rfl, Nat.le_refl _, fun _ _ => rfl⟩)))
                  rwa [HN.out] at this
                have HA1 : Hid ((Builtin.append_ #[28, 28] 28 #[.slice none 0 0, .slice ov j oc]).run Tryd.prog W3 = .ok v1 W4) := ha1
                have HA2 : Hid ((Builtin.append_ #[28, 28] 28 #[v1, .slice (some ⟨W4.heap.size, 0, none⟩) 1 1]).run Tryd.prog (W4.drew.alloc (.cells #[.int .i64 L, .int .i64 (placeR ls L)] 46)) = .ok v2 W6) := ha2
                have HR2 : Hid (∀ (av2 : Option Addr) (c2 : Nat), (j < j → ∀ g', (ov : Option Addr) = some ⟨g', 0, none⟩ → av2 = some ⟨g', j * 2, none⟩) → ∃ v3 W7, (Builtin.append_ #[28, 28] 28 #[v2, .slice av2 (j - j) c2]).run Tryd.prog W6 = .ok v3 W7 ∧ Below W3.heap.size W3 W7 ∧ ∃ av3 c3, v3 = .slice av3 (j + 1) c3 ∧ W7.ownsRow w.heap.size 46 2 v3 (j + 1) ((prs ls (ts.take j ++ L :: ts.drop j)).flatMap pcells)) := fun av2 c2 h => by
                  obtain ⟨v3, W7, a1, a2, a3⟩ := hrest2 av2 c2 (fun h1 => h (by omega))
                  rw [hplm] at a1 a3
                  obtain ⟨av3, c3, rfl, _⟩ := owns_shape a3
                  refine ⟨_, W7, a1, a2, av3, c3, rfl, ?_⟩
                  have hcs : (prs ls ts).take j ++ (L, placeR ls L) :: (prs ls ts).drop j = prs ls (ts.take j ++ L :: ts.drop j) := by simp [prs, List.map_take, List.map_drop]
                  rw [hcs] at a3
                  exact ⟨a3.1, a3.2.elim .inl (fun ⟨g, cap, cur, b1, b2, b3⟩ => .inr ⟨g, cap, cur, b1, by have := HBr.out.size; omega, b3⟩)⟩
                have HB6 : Hid (Below W3.heap.size W3 W6) := hb6
                clear ha1 ha2 hrest hrest2 hO3 hb1 hb6 hplm
                generalize placeR ls L = P at *
                go_wp2_with (at_builtin; refine wpList_append_run rfl _ _ 28 rfl rfl rfl HA1.out ?_)
                go_region_held3 (fun W => W.cell? ⟨blk, off + q * 7, none⟩ = some (.int .i64 L)) (first | exact s1 | exact s2 | exact s3) (first | (go_at_call 25; refine HPL.out.mono ?_; rintro e wz ⟨rfl, rfl⟩) | refine step_append rfl (.tmp 76) (.tmp 90) 28 rfl rfl rfl HA2.out ?_)
                obtain ⟨v3, W7, ha3, hb7, av3, c3, rfl, ho7⟩ := HR2.out av2 c2 (fun h => absurd h (by omega))
                rw [Nat.sub_self] at ha3
                have HA3 : Hid ((Builtin.append_ #[28, 28] 28 #[v2, .slice av2 0 c2]).run Tryd.prog W6 = .ok (.slice av3 (j + 1) c3) W7) := ha3
                have hl' : (ts.take j ++ L :: ts.drop j).length = j + 1 := by have := HM.out; simp; omega
                have HF : Hid (W7.ownsRow w.heap.size 46 2 (.slice av3 (j + 1) c3) (ts.take j ++ L :: ts.drop j).length ((prs ls (ts.take j ++ L :: ts.drop j)).flatMap pcells) ∧ Below w.heap.size w W7) := ⟨by rw [hl']; exact ho7, HBr.out.trans ((HB3.out.trans (hb7.mono HB3.out.size)).mono HBr.out.size)⟩
                clear ha3 ho7 hb7 hl'
                go_wp2_with (at_builtin; refine wpList_append_run rfl _ _ 28 rfl rfl rfl HA3.out ?_)
                go_roundw
                case rel => exact ⟨q + 1, _, by go_num, HLT.out, HPU.out, HF.out.1, HF.out.2⟩
                case measure => have := HLT.out; simp [intOf]; omega
        · have e1 : ((q : Int) < (n : Int)) = False := eq_false (by omega)
          obtain rfl : q = n := by omega
          have hAll : Rise ls ls.length ts := by rw [HN.out]; exact hRi
          obtain ⟨hnd, hpr⟩ := hAll.all
          have hlen : ts.length = (placesL ls).length := by rw [← hpr]; simp [prs]
          rw [hpr, hlen] at hO
          rw [hlen]
          have HF : Hid (RPl ls w (.returned (.tuple #[.slice ov (placesL ls).length oc, .int .i64 0])) wr) := ⟨hbr, .inr ⟨HRT.out, hnd, ov, oc, rfl, hO⟩⟩
          generalize (placesL ls).length = pn at *
          clear hO hnd hpr hlen hAll hRi hbr
          go_wp2
          go_ret2
          exact HF.out

end Go.Proofs.YtbfmadcppnfgpaaDoor
