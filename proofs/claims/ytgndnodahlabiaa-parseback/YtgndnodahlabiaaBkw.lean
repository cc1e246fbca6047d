/-
  There and back (layer 10): the walk of the law ParseBack.
-/
import Derived.Test.YtgndnodahlabiaaBkE
import Derived.Test.YtgndnodahlabiaaPlw
namespace Go.Proofs.Ytgndnodahlabiaa
open Go.ChangeShapes Go.WideShapes Go.ChangeAt Go.RowKit Go.Shelf

set_option maxRecDepth 100000 in
set_option maxHeartbeats 16000000 in
theorem back_walk (s : ByteArray) (w : World) : Calls Try.prog 4 #[.string s] w fun e w' => e = .returned (.bool true) ∧ Below w.heap.size w w' := by
  go_enter Try.func4, Try.ntmps4
  go_wp2_with fail
  refine (small_is w).mono ?_
  rintro e w1 ⟨rfl, hb1⟩
  have HB1 := hide hb1
  clear hb1
  by_cases hbig : 1024 < s.size
  · have e1 : ((1024 : Int) < (s.size : Int)) = True := eq_true (by omega)
    go_wp2_with fail
    go_ret
    exact ⟨rfl, HB1.out⟩
  have e1 : ((1024 : Int) < (s.size : Int)) = False := eq_false (by omega)
  have hss := s_size s
  go_wp2_with fail
  refine (lex_s s (by omega) w1).mono ?_
  rintro e w2 ⟨r, rfl, ha, hb2⟩
  have HB2 := hide (bel_two HB1.out hb2)
  have HA := hide (lexAns_cases ha)
  clear hb2 HB1 ha
  rcases HA.out with ⟨ls, v, hlx, rfl, hown⟩ | ⟨ts, q, hlx, rfl⟩
  · have HL := hide (lex_toks hlx (by omega))
    have HSUM := hide (lexS_sum hlx (by omega))
    have HBK := hide (fun hp => back_is hlx hp)
    have HSZ := hide (fun hx => ((places_is ls []).2.2 hx).2.1)
    obtain ⟨lav, lcap, lblk, loff, rfl, hL0, -⟩ := toks_of hown (by have := HL.out.1; omega) (fun x hx => by have := HL.out.2 x hx; omega)
    have HP := hide (parse_is (cap := lcap) hL0)
    clear hown hlx HA hL0
    go_wp2_with fail
    refine HP.out.mono ?_
    clear HP
    rintro e w4 ⟨⟨k, tt, a, nav, ncap, nblk, noff, ks⟩, rfl, hn, hnd, hb4⟩
    have N5 := NodB.new hn
    have HB5 := hide (bel_two HB2.out (bel_two hb4 (bel_new w4 (.cells #[.int .i64 k, .string (bs tt), .int .i64 a, .slice nav ks.length ncap] 24))))
    clear hn hb4 HB2
    have HL1 := hide HL.out.1
    generalize hg : (parseS ls).2.2 = g at *
    clear HL
    by_cases hg0 : g = 0
    · subst hg0
      obtain ⟨hw, us, hlu, hres⟩ := HBK.out rfl
      rw [← hnd] at hw hlu hres
      have hsz : (Nv.mk k tt a nav ncap nblk noff ks).nd.sz ≤ 1025 := by rw [hnd]; have := HSZ.out rfl; have := HL1.out; omega
      have HN := hide hnd
      clear hg hnd HBK HSZ
      have hwt : wt (Nv.mk k tt a nav ncap nblk noff ks).nd ≤ 21524 := by have := HSUM.out; omega
      have htl := txt_wt (Nv.mk k tt a nav ncap nblk noff ks).nd
      have hned := ned_wt (Nv.mk k tt a nav ncap nblk noff ks).nd
      have hbnd := sz_bnd (Nv.mk k tt a nav ncap nblk noff ks).nd (by omega)
      have HX := hide (text_of (.mk k tt a nav ncap nblk noff ks) _ _ N5.li hbnd (by omega))
      obtain ⟨c0, c1, c2, c3⟩ := N5.cells
      have HN5 := hide N5
      have HM := hide (And.intro hbnd (And.intro hned hwt))
      generalize hty : txt (Nv.mk k tt a nav ncap nblk noff ks).nd = ty at *
      have hlen : ty.length ≤ 21521 := by omega
      have HLU := hide hlu
      have HRES := hide hres
      have htyl : (bs ty).data.toList = ty := by simp [bs]
      have htys : (bs ty).size = ty.length := bs_size ty
      clear N5 hw hlu hres hwt htl hned hbnd hsz hty HSUM
      go_wp2_with fail
      refine HX.out.mono ?_
      clear HX
      rintro e w6 ⟨rfl, hb6⟩
      have HN6 := hide (HN5.out.below hb6)
      have HB6 := hide (bel_two HB5.out hb6)
      have HXL := hide (lex_s (bs ty) (by omega) w6)
      clear hb6 HN5 HB5 c0 c1 c2 c3
      go_wp2_with fail
      refine HXL.out.mono ?_
      clear HXL
      rintro e w7 ⟨r, rfl, ha, hb7⟩
      obtain ⟨v7, rfl, hown⟩ := lexAns_good ha (by rw [htyl]; exact HLU.out)
      have hul := lexS_len ty
      have hush := lexS_sh ty
      rw [HLU.out] at hul hush
      simp only at hul hush
      obtain ⟨uav, ucap, ublk, uoff, rfl, hU0, -⟩ := toks_of hown (by omega) (fun x hx => by have := hush x hx; omega)
      have HP := hide (parse_is (cap := ucap) hU0)
      have HSZ := hide (fun hx => ((places_is us []).2.2 hx).2.1)
      have HN7 := hide (HN6.out.below hb7)
      have HB7 := hide (bel_two HB6.out hb7)
      have HUL := hide hul
      clear ha hown hush hU0 hul hb7 HN6 HB6
      go_wp2_with fail
      refine HP.out.mono ?_
      clear HP
      rintro e w8 ⟨⟨k2, tt2, a2, nav2, ncap2, nblk2, noff2, ks2⟩, rfl, hn, hnd, hb8⟩
      have hb9 := bel_two hb8 (bel_new w8 (.cells #[.int .i64 k2, .string (bs tt2), .int .i64 a2, .slice nav2 ks2.length ncap2] 24))
      have M9 := NodB.new hn
      have N9 := HN7.out.below hb9
      have HB9 := hide (bel_two HB7.out hb9)
      rw [← hnd] at HRES HSZ
      generalize hh : (parseS us).2.2 = h at *
      clear hn hb8 hb9 HN7 HB7 hnd hh
      have e2 : (((bs ty).data.toList.length : Int) == ((bs ty).size : Int)) = true := by rw [htyl, htys]; simp
      rcases HRES.out with h5 | ⟨h0, hsm, htx⟩
      · subst h5
        clear M9 N9
        go_wp2_with fail
        go_ret
        exact ⟨rfl, HB9.out⟩
      · subst h0
        have hsz2 := HSZ.out rfl
        have hbnd2 := sz_bnd (Nv.mk k2 tt2 a2 nav2 ncap2 nblk2 noff2 ks2).nd (by have := HUL.out; omega)
        have hned2 := same_ned hsm
        have hM := tsame_is (.mk k tt a nav ncap nblk noff ks) (.mk k2 tt2 a2 nav2 ncap2 nblk2 noff2 ks2) _ (fun _ => True) (N9.li.mono (fun _ _ _ => trivial)) (M9.li.mono (fun _ _ _ => trivial)) HM.out.1 hbnd2
        rw [hsm] at hM
        have HMM := hide hM
        have hnd2 : ned (Nv.mk k2 tt2 a2 nav2 ncap2 nblk2 noff2 ks2).nd ≤ 200000 := by have := HM.out.2; omega
        obtain ⟨c0, c1, c2, c3⟩ := N9.cells
        obtain ⟨d0, d1, d2, d3⟩ := M9.cells
        have HX2 := hide (fun w' (hb : Below (w8.alloc (.cells #[.int .i64 k2, .string (bs tt2), .int .i64 a2, .slice nav2 ks2.length ncap2] 24)).heap.size (w8.alloc (.cells #[.int .i64 k2, .string (bs tt2), .int .i64 a2, .slice nav2 ks2.length ncap2] 24)) w') => text_of (.mk k2 tt2 a2 nav2 ncap2 nblk2 noff2 ks2) w' _ (M9.below hb).li hbnd2 (by omega))
        rw [htx] at HX2
        have HM9 := hide M9
        have eqx : ((bs ty).toList == (bs ty).toList) = true := by simp
        clear hM N9 M9 hbnd2 hned2 hnd2 hsz2 hsm htx
        go_wp2_with fail
        refine HMM.out.mono ?_
        clear HMM
        rintro e w10 ⟨rfl, hb10⟩
        obtain ⟨d0, d1, d2, d3⟩ := (HM9.out.below hb10).cells
        have HXX := hide (HX2.out w10 hb10)
        have HB10 := hide (bel_two HB9.out hb10)
        clear hb10 HX2
        go_wp2_with fail
        refine HXX.out.mono ?_
        clear HXX
        rintro e w11 ⟨rfl, hb11⟩
        have HB11 := hide (bel_two HB10.out hb11)
        clear hb11
        go_wp2
        go_ret
        exact ⟨rfl, HB11.out⟩
    · have e2 : ((g : Int) != 0) = true := by rw [bne_iff_ne]; omega
      clear N5
      go_wp2_with fail
      go_ret
      exact ⟨rfl, HB5.out⟩
  · have HP := hide (parse_is (cap := 0) (av := none) (W := w2) (blk := 0) (off := 0) (ts := []) ⟨fun h => absurd h (by decide), fun h => absurd h (by decide), fun i f h => absurd h (by simp), by decide, fun x hx => by cases hx⟩)
    clear HA hlx
    go_wp2_with fail
    refine HP.out.mono ?_
    clear HP
    rintro e w4 ⟨⟨k, tt, a, nav, ncap, nblk, noff, ks⟩, rfl, hn, hnd, hb4⟩
    have HB5 := hide (bel_two HB2.out (bel_two hb4 (bel_new w4 (.cells #[.int .i64 k, .string (bs tt), .int .i64 a, .slice nav ks.length ncap] 24))))
    clear hn hnd hb4
    go_wp2_with fail
    go_ret
    exact ⟨rfl, HB5.out⟩

end Go.Proofs.Ytgndnodahlabiaa
