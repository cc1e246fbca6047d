/-
  Signs (layer 9): contracts of Sign and signSize.
-/
import Derived.Test.YtekangigfhhkoaaNum
namespace Go.Proofs.Ytekangigfhhkoaa
open Go.ChangeShapes Go.WideShapes Go.ChangeAt Go.RowKit Go.Shelf

set_option maxRecDepth 100000 in
set_option maxHeartbeats 1000000 in
theorem sign_no (s : ByteArray) (h : sign s.data.toList = false) (w : World) :
    Calls Try.prog 17 #[.string s] w fun e w' => e = .returned (.bool false) ∧ w' = w := by
  have h1 : s.data.toList ∉ signsL := of_decide_eq_false h
  have hs : s.toList = s.data.toList := ByteArray.toList_eq s
  have e0 : (s.toList == [61, 61]) = false := beq_eq_false_iff_ne.2 fun e => h1 (by rw [← hs, e]; decide)
  have d0 : (s.toList = [61, 61]) = False := eq_false fun e => h1 (by rw [← hs, e]; decide)
  have e1 : (s.toList == [33, 61]) = false := beq_eq_false_iff_ne.2 fun e => h1 (by rw [← hs, e]; decide)
  have d1 : (s.toList = [33, 61]) = False := eq_false fun e => h1 (by rw [← hs, e]; decide)
  have e2 : (s.toList == [60, 61]) = false := beq_eq_false_iff_ne.2 fun e => h1 (by rw [← hs, e]; decide)
  have d2 : (s.toList = [60, 61]) = False := eq_false fun e => h1 (by rw [← hs, e]; decide)
  have e3 : (s.toList == [60, 60]) = false := beq_eq_false_iff_ne.2 fun e => h1 (by rw [← hs, e]; decide)
  have d3 : (s.toList = [60, 60]) = False := eq_false fun e => h1 (by rw [← hs, e]; decide)
  have e4 : (s.toList == [62, 62]) = false := beq_eq_false_iff_ne.2 fun e => h1 (by rw [← hs, e]; decide)
  have d4 : (s.toList = [62, 62]) = False := eq_false fun e => h1 (by rw [← hs, e]; decide)
  have e5 : (s.toList == [40]) = false := beq_eq_false_iff_ne.2 fun e => h1 (by rw [← hs, e]; decide)
  have d5 : (s.toList = [40]) = False := eq_false fun e => h1 (by rw [← hs, e]; decide)
  have e6 : (s.toList == [41]) = false := beq_eq_false_iff_ne.2 fun e => h1 (by rw [← hs, e]; decide)
  have d6 : (s.toList = [41]) = False := eq_false fun e => h1 (by rw [← hs, e]; decide)
  have e7 : (s.toList == [123]) = false := beq_eq_false_iff_ne.2 fun e => h1 (by rw [← hs, e]; decide)
  have d7 : (s.toList = [123]) = False := eq_false fun e => h1 (by rw [← hs, e]; decide)
  have e8 : (s.toList == [125]) = false := beq_eq_false_iff_ne.2 fun e => h1 (by rw [← hs, e]; decide)
  have d8 : (s.toList = [125]) = False := eq_false fun e => h1 (by rw [← hs, e]; decide)
  have e9 : (s.toList == [91]) = false := beq_eq_false_iff_ne.2 fun e => h1 (by rw [← hs, e]; decide)
  have d9 : (s.toList = [91]) = False := eq_false fun e => h1 (by rw [← hs, e]; decide)
  have e10 : (s.toList == [93]) = false := beq_eq_false_iff_ne.2 fun e => h1 (by rw [← hs, e]; decide)
  have d10 : (s.toList = [93]) = False := eq_false fun e => h1 (by rw [← hs, e]; decide)
  have e11 : (s.toList == [44]) = false := beq_eq_false_iff_ne.2 fun e => h1 (by rw [← hs, e]; decide)
  have d11 : (s.toList = [44]) = False := eq_false fun e => h1 (by rw [← hs, e]; decide)
  have e12 : (s.toList == [59]) = false := beq_eq_false_iff_ne.2 fun e => h1 (by rw [← hs, e]; decide)
  have d12 : (s.toList = [59]) = False := eq_false fun e => h1 (by rw [← hs, e]; decide)
  have e13 : (s.toList == [46]) = false := beq_eq_false_iff_ne.2 fun e => h1 (by rw [← hs, e]; decide)
  have d13 : (s.toList = [46]) = False := eq_false fun e => h1 (by rw [← hs, e]; decide)
  have e14 : (s.toList == [61]) = false := beq_eq_false_iff_ne.2 fun e => h1 (by rw [← hs, e]; decide)
  have d14 : (s.toList = [61]) = False := eq_false fun e => h1 (by rw [← hs, e]; decide)
  have e15 : (s.toList == [43]) = false := beq_eq_false_iff_ne.2 fun e => h1 (by rw [← hs, e]; decide)
  have d15 : (s.toList = [43]) = False := eq_false fun e => h1 (by rw [← hs, e]; decide)
  have e16 : (s.toList == [45]) = false := beq_eq_false_iff_ne.2 fun e => h1 (by rw [← hs, e]; decide)
  have d16 : (s.toList = [45]) = False := eq_false fun e => h1 (by rw [← hs, e]; decide)
  have e17 : (s.toList == [42]) = false := beq_eq_false_iff_ne.2 fun e => h1 (by rw [← hs, e]; decide)
  have d17 : (s.toList = [42]) = False := eq_false fun e => h1 (by rw [← hs, e]; decide)
  have e18 : (s.toList == [47]) = false := beq_eq_false_iff_ne.2 fun e => h1 (by rw [← hs, e]; decide)
  have d18 : (s.toList = [47]) = False := eq_false fun e => h1 (by rw [← hs, e]; decide)
  have e19 : (s.toList == [37]) = false := beq_eq_false_iff_ne.2 fun e => h1 (by rw [← hs, e]; decide)
  have d19 : (s.toList = [37]) = False := eq_false fun e => h1 (by rw [← hs, e]; decide)
  have e20 : (s.toList == [38]) = false := beq_eq_false_iff_ne.2 fun e => h1 (by rw [← hs, e]; decide)
  have d20 : (s.toList = [38]) = False := eq_false fun e => h1 (by rw [← hs, e]; decide)
  have e21 : (s.toList == [124]) = false := beq_eq_false_iff_ne.2 fun e => h1 (by rw [← hs, e]; decide)
  have d21 : (s.toList = [124]) = False := eq_false fun e => h1 (by rw [← hs, e]; decide)
  have e22 : (s.toList == [94]) = false := beq_eq_false_iff_ne.2 fun e => h1 (by rw [← hs, e]; decide)
  have d22 : (s.toList = [94]) = False := eq_false fun e => h1 (by rw [← hs, e]; decide)
  have e23 : (s.toList == [60]) = false := beq_eq_false_iff_ne.2 fun e => h1 (by rw [← hs, e]; decide)
  have d23 : (s.toList = [60]) = False := eq_false fun e => h1 (by rw [← hs, e]; decide)
  clear h1 hs h
  go_enter Try.func17, Try.ntmps17
  go_wp2
  go_ret
  exact ⟨rfl, rfl⟩
set_option maxRecDepth 100000 in
set_option maxHeartbeats 2000000 in
theorem sign_yes (s : ByteArray) (h : sign s.data.toList = true) (w : World) :
    Calls Try.prog 17 #[.string s] w fun e w' => e = .returned (.bool true) ∧ w' = w := by
  have h1 : s.data.toList ∈ signsL := of_decide_eq_true h
  simp only [signsL, List.mem_cons, List.not_mem_nil, or_false] at h1
  clear h
  rcases h1 with h1 | h1 | h1 | h1 | h1 | h1 | h1 | h1 | h1 | h1 | h1 | h1 | h1 | h1 | h1 | h1 | h1 | h1 | h1 | h1 | h1 | h1 | h1 | h1
  · obtain rfl := bs_of h1
    have ht : (bs [61, 61]).toList = [61, 61] := bs_toList _
    clear h1
    go_enter Try.func17, Try.ntmps17
    go_wp2
    go_ret
    exact ⟨rfl, rfl⟩
  · obtain rfl := bs_of h1
    have ht : (bs [33, 61]).toList = [33, 61] := bs_toList _
    clear h1
    go_enter Try.func17, Try.ntmps17
    go_wp2
    go_ret
    exact ⟨rfl, rfl⟩
  · obtain rfl := bs_of h1
    have ht : (bs [60, 61]).toList = [60, 61] := bs_toList _
    clear h1
    go_enter Try.func17, Try.ntmps17
    go_wp2
    go_ret
    exact ⟨rfl, rfl⟩
  · obtain rfl := bs_of h1
    have ht : (bs [60, 60]).toList = [60, 60] := bs_toList _
    clear h1
    go_enter Try.func17, Try.ntmps17
    go_wp2
    go_ret
    exact ⟨rfl, rfl⟩
  · obtain rfl := bs_of h1
    have ht : (bs [62, 62]).toList = [62, 62] := bs_toList _
    clear h1
    go_enter Try.func17, Try.ntmps17
    go_wp2
    go_ret
    exact ⟨rfl, rfl⟩
  · obtain rfl := bs_of h1
    have ht : (bs [40]).toList = [40] := bs_toList _
    clear h1
    go_enter Try.func17, Try.ntmps17
    go_wp2
    go_ret
    exact ⟨rfl, rfl⟩
  · obtain rfl := bs_of h1
    have ht : (bs [41]).toList = [41] := bs_toList _
    clear h1
    go_enter Try.func17, Try.ntmps17
    go_wp2
    go_ret
    exact ⟨rfl, rfl⟩
  · obtain rfl := bs_of h1
    have ht : (bs [123]).toList = [123] := bs_toList _
    clear h1
    go_enter Try.func17, Try.ntmps17
    go_wp2
    go_ret
    exact ⟨rfl, rfl⟩
  · obtain rfl := bs_of h1
    have ht : (bs [125]).toList = [125] := bs_toList _
    clear h1
    go_enter Try.func17, Try.ntmps17
    go_wp2
    go_ret
    exact ⟨rfl, rfl⟩
  · obtain rfl := bs_of h1
    have ht : (bs [91]).toList = [91] := bs_toList _
    clear h1
    go_enter Try.func17, Try.ntmps17
    go_wp2
    go_ret
    exact ⟨rfl, rfl⟩
  · obtain rfl := bs_of h1
    have ht : (bs [93]).toList = [93] := bs_toList _
    clear h1
    go_enter Try.func17, Try.ntmps17
    go_wp2
    go_ret
    exact ⟨rfl, rfl⟩
  · obtain rfl := bs_of h1
    have ht : (bs [44]).toList = [44] := bs_toList _
    clear h1
    go_enter Try.func17, Try.ntmps17
    go_wp2
    go_ret
    exact ⟨rfl, rfl⟩
  · obtain rfl := bs_of h1
    have ht : (bs [59]).toList = [59] := bs_toList _
    clear h1
    go_enter Try.func17, Try.ntmps17
    go_wp2
    go_ret
    exact ⟨rfl, rfl⟩
  · obtain rfl := bs_of h1
    have ht : (bs [46]).toList = [46] := bs_toList _
    clear h1
    go_enter Try.func17, Try.ntmps17
    go_wp2
    go_ret
    exact ⟨rfl, rfl⟩
  · obtain rfl := bs_of h1
    have ht : (bs [61]).toList = [61] := bs_toList _
    clear h1
    go_enter Try.func17, Try.ntmps17
    go_wp2
    go_ret
    exact ⟨rfl, rfl⟩
  · obtain rfl := bs_of h1
    have ht : (bs [43]).toList = [43] := bs_toList _
    clear h1
    go_enter Try.func17, Try.ntmps17
    go_wp2
    go_ret
    exact ⟨rfl, rfl⟩
  · obtain rfl := bs_of h1
    have ht : (bs [45]).toList = [45] := bs_toList _
    clear h1
    go_enter Try.func17, Try.ntmps17
    go_wp2
    go_ret
    exact ⟨rfl, rfl⟩
  · obtain rfl := bs_of h1
    have ht : (bs [42]).toList = [42] := bs_toList _
    clear h1
    go_enter Try.func17, Try.ntmps17
    go_wp2
    go_ret
    exact ⟨rfl, rfl⟩
  · obtain rfl := bs_of h1
    have ht : (bs [47]).toList = [47] := bs_toList _
    clear h1
    go_enter Try.func17, Try.ntmps17
    go_wp2
    go_ret
    exact ⟨rfl, rfl⟩
  · obtain rfl := bs_of h1
    have ht : (bs [37]).toList = [37] := bs_toList _
    clear h1
    go_enter Try.func17, Try.ntmps17
    go_wp2
    go_ret
    exact ⟨rfl, rfl⟩
  · obtain rfl := bs_of h1
    have ht : (bs [38]).toList = [38] := bs_toList _
    clear h1
    go_enter Try.func17, Try.ntmps17
    go_wp2
    go_ret
    exact ⟨rfl, rfl⟩
  · obtain rfl := bs_of h1
    have ht : (bs [124]).toList = [124] := bs_toList _
    clear h1
    go_enter Try.func17, Try.ntmps17
    go_wp2
    go_ret
    exact ⟨rfl, rfl⟩
  · obtain rfl := bs_of h1
    have ht : (bs [94]).toList = [94] := bs_toList _
    clear h1
    go_enter Try.func17, Try.ntmps17
    go_wp2
    go_ret
    exact ⟨rfl, rfl⟩
  · obtain rfl := bs_of h1
    have ht : (bs [60]).toList = [60] := bs_toList _
    clear h1
    go_enter Try.func17, Try.ntmps17
    go_wp2
    go_ret
    exact ⟨rfl, rfl⟩
theorem sign_s (s : ByteArray) (w : World) :
    Calls Try.prog 17 #[.string s] w fun e w' => e = .returned (.bool (sign s.data.toList)) ∧ w' = w := by
  by_cases h : sign s.data.toList = true
  · rw [h]; exact sign_yes s h w
  · have h' : sign s.data.toList = false := by simpa using h
    rw [h']; exact sign_no s h' w

end Go.Proofs.Ytekangigfhhkoaa
