/-
  Is one of these signs next (layer 10): the contracts of slices.IndexFunc and slices.ContainsFunc of the parser's is.
  A region that draws its order, whose loads are read ahead of one late store (no Go program is named here): what is held need only hold up to the late operation.
-/
import Derived.Test.YtgndnodahlabiaaPsL
import Derived.OrdersHeld
import Derived.RegionTactic
import Derived.WalkKit

/- Is one of these signs next (layer 10): the contracts of slices.IndexFunc and slices.ContainsFunc of the parser's is. -/
namespace Go.Proofs.Ytgndnodahlabiaa
open Go.ChangeShapes Go.WideShapes Go.ChangeAt Go.RowKit

/-- A row of texts. -/
structure StrRow (W : World) (av : Option Addr) (b : Nat) (sg : List (List UInt8)) : Prop where
  at_ : 0 < sg.length → av = some ⟨b, 0, none⟩
  lt : 0 < sg.length → b < W.heap.size
  has : ∀ i, (h : i < sg.length) → W.cell? ⟨b, i, none⟩ = some (.string (bs (sg[i]'h)))
theorem StrRow.turns {W W' : World} {Q : Nat → Prop} {av : Option Addr} {b : Nat} {sg : List (List UInt8)} (h : StrRow W av b sg) (ht : Turns Q W W') (hq : 0 < sg.length → ¬ Q b) : StrRow W' av b sg :=
  ⟨h.at_, fun h0 => Nat.lt_of_lt_of_le (h.lt h0) ht.size, fun i hi => by
    have := h.has i hi
    simp only [World.cell?] at this ⊢
    rw [ht.block b (h.lt (by omega)) (hq (by omega))]; exact this⟩

set_option maxRecDepth 100000 in
set_option maxHeartbeats 1000000 in
theorem index_is {W : World} {P : Nat} {av : Option Addr} {cap blk off : Nat} {ts : List Tok} {s : St} {r : Nat} (h : ParAt W P av cap blk off ts s r) (sav : Option Addr) (scap b : Nat) (sg : List (List UInt8)) (hs : StrRow W sav b sg) (hl : sg.length ≤ 100) :
    Calls Try.prog 89 #[.slice sav sg.length scap, .func (.func 75) #[.pointer (some ⟨P, 0, none⟩)] #[]] W fun e W' => ∃ i : Int, e = .returned (.int .i64 i) ∧ decide (0 ≤ i) = anyW ts sg s ∧ Below W.heap.size W W' := by
  have HP := hidW h
  have HS := hidW hs
  clear h hs
  generalize hn : sg.length = n at *
  have HN := hidW hn
  clear hn
  go_enter Try.func89, Try.ntmps89
  go_wp2_with fail
  go_loopw [8] (fun i wr => ∃ k : Nat, k ≤ n ∧ i = .int .i64 k ∧ Below W.heap.size W wr ∧ ∀ j (hj : j < sg.length), j < k → isW ts (sg[j]) s = false) (fun i _ => n - (intOf i).toNat)
  case atStart => exact ⟨0, Nat.zero_le _, rfl, Below.refl _ _, fun j _ hj => absurd hj (Nat.not_lt_zero j)⟩
  case round =>
    obtain ⟨k, hk, rfl, hb, hno⟩ := hrel
    have HNO := hidW hno
    have HB := hidW hb
    have hp1 := HP.out.below hb
    have hs1 := HS.out.turns (Turns.of_below hb) (fun h0 => by have := HS.out.lt h0; omega)
    clear hno
    by_cases hlt : k < n
    · have hk2 : k < sg.length := by have := HN.out; omega
      obtain rfl := hs1.at_ (by omega)
      have c0 := hs1.has k hk2
      have hI := is_is hp1 (sg[k])
      have hq : ∃ q, q = sg[k] := ⟨_, rfl⟩
      obtain ⟨q, hqe⟩ := hq
      rw [← hqe] at c0 hI
      have HQ := hidW hqe
      have e1 : ((k : Int) < (n : Int)) = True := eq_true (by omega)
      cases hc : isW ts q s with
      | true =>
        rw [hc] at hI
        have HC := hidW hc
        clear hb hp1 hs1 hqe hc
        go_wp2_with fail
        refine hI.mono ?_; rintro e W2 ⟨rfl, hb2⟩
        go_wp2
        go_ret
        exact ⟨k, rfl, by
          rw [show anyW ts sg s = true from List.any_eq_true.2 ⟨_, List.getElem_mem hk2, by rw [← HQ.out]; exact HC.out⟩]
          simp, bel_two HB.out hb2⟩
      | false =>
        rw [hc] at hI
        have HC := hidW hc
        clear hb hp1 hs1 hqe hc
        go_wp2_with fail
        refine hI.mono ?_; rintro e W2 ⟨rfl, hb2⟩
        go_wp2_with fail
        go_roundw
        case rel => exact ⟨k + 1, by omega, by go_num, bel_two HB.out hb2, fun j hj hjk => by
          by_cases hjk2 : j < k
          · exact HNO.out j hj hjk2
          · obtain rfl : j = k := by omega
            rw [← HQ.out]; exact HC.out⟩
        case measure => simp [intOf]; omega
    · have e1 : ((k : Int) < (n : Int)) = False := by simp; omega
      clear hb hp1 hs1
      go_wp2
      go_ret
      refine ⟨-1, rfl, ?_, HB.out⟩
      have : anyW ts sg s = false := by
        unfold anyW
        rw [List.any_eq_false]
        intro x hx
        obtain ⟨j, hj, rfl⟩ := List.mem_iff_getElem.1 hx
        have := HN.out
        simpa using HNO.out j hj (by omega)
      rw [this]; rfl

set_option maxRecDepth 100000 in
theorem contains_is {W : World} {P : Nat} {av : Option Addr} {cap blk off : Nat} {ts : List Tok} {s : St} {r : Nat} (h : ParAt W P av cap blk off ts s r) (sav : Option Addr) (scap b : Nat) (sg : List (List UInt8)) (hs : StrRow W sav b sg) (hl : sg.length ≤ 100) :
    Calls Try.prog 87 #[.slice sav sg.length scap, .func (.func 75) #[.pointer (some ⟨P, 0, none⟩)] #[]] W fun e W' => e = .returned (.bool (anyW ts sg s)) ∧ Below W.heap.size W W' := by
  have HI := hidW (index_is h sav scap b sg hs hl)
  clear h hs
  generalize sg.length = n at *
  go_enter Try.func87, Try.ntmps87
  go_wp2_with fail
  refine HI.out.mono ?_; clear HI; rintro e W1 ⟨i, rfl, hi, hb⟩
  by_cases h0 : 0 ≤ i
  · have hA : anyW ts sg s = true := by rw [← hi]; simp [h0]
    clear hi
    go_wp2
    go_ret
    exact ⟨by rw [hA]; rfl, hb⟩
  · have hA : anyW ts sg s = false := by rw [← hi]; simp [h0]
    clear hi
    go_wp2
    go_ret
    exact ⟨by rw [hA]; simp; omega, hb⟩

end Go.Proofs.Ytgndnodahlabiaa

/- A region that draws its order, whose loads are read ahead of one late store (no Go program is named here): what is held need only hold up to the late operation. -/
namespace Go.Proofs.Ytgndnodahlabiaa
open Go.RowKit

/-- Whatever order comes; S is owed behind each operation as long as the late one has not come. -/
def AnyL (P : Program) (md : Region.Mode) (ops : Array Oper) (Q : Exit → Act → World → Prop) (S : World → Prop) (lt : Nat) : Nat → Array Bool → Act → World → Prop
  | 0, A, a, w => Region.ready md ops A = [] ∧ Q .normal a w
  | n + 1, A, a, w => (Region.ready md ops A = [] → Q .normal a w) ∧
      ∀ i, i ∈ Region.ready md ops A → wpOp P ops Q i (fun b v => ((A.setIfInBounds i true).getD lt false = false → S v) ∧ AnyL P md ops Q S lt n (A.setIfInBounds i true) b v) a w

theorem anyL_any {P : Program} {ops : Array Oper} {Q : Exit → Act → World → Prop} {md : Region.Mode} {S : World → Prop} {lt : Nat} : ∀ (n : Nat) (A : Array Bool) (a : Act) (w : World), AnyL P md ops Q S lt n A a w → wpAny P md ops Q n A a w
  | 0, _, _, _, h => h
  | n + 1, _, _, _, h => ⟨h.1, fun i hi => wpOp_mono (fun b v k => anyL_any n _ b v k.2) (h.2 i hi)⟩

/-- What the late operation must wait for. -/
def lateB (md : Region.Mode) (ops : Array Oper) (lt i : Nat) : Bool :=
  decide (lt ≠ i) && (match ops[lt]? with | some o => o.after.any (fun e => Region.binds md e && e.on == i) | none => true)

theorem anyL_first {P : Program} {ops : Array Oper} {Q : Exit → Act → World → Prop} {md : Region.Mode} {S : World → Prop} {lt : Nat} {i : Nat} {x : Oper} {v : Value} (hi : ops[i]? = some x) (hsel : ∀ (j : Nat) (o : Oper) cs b, ops[j]? = some o → o.op ≠ .select cs b)
    (hq : ∀ c a w, Q (.panic c) (a.put x.dst v) w → Q (.panic c) a w) (hL : lateB md ops lt i = true) :
    ∀ (n : Nat) (A : Array Bool) (a : Act) (w : World),
      (∀ j y, ops[j]? = some y → j ≠ i → A.getD j true = false → (∀ e ∈ y.after, Region.binds md e = true → e.on ≠ i) → x.apart ops y = true) →
      A.getD lt false = false → i ∈ Region.ready md ops A → YieldsIf P ops S x v a → S w →
      AnyL P md ops Q S lt n (A.setIfInBounds i true) (a.put x.dst v) w → AnyL P md ops Q S lt (n + 1) A a w := by
  unfold lateB at hL
  rw [Bool.and_eq_true, decide_eq_true_eq] at hL
  obtain ⟨hne, hwt⟩ := hL
  intro n
  induction n with
  | zero =>
    intro A a w _ _ hr hy hS H
    constructor
    · intro e; rw [e] at hr; cases hr
    · intro j hj
      by_cases e : j = i
      · subst e; exact hy.wpOp hi hS ⟨fun _ => hS, H⟩
      · have := ready_mono hj e
        rw [H.1] at this; cases this
  | succ n ih =>
    intro A a w hap hlt hr hy hS H
    constructor
    · intro e; rw [e] at hr; cases hr
    · intro j hj
      by_cases e : j = i
      · subst e; exact hy.wpOp hi hS ⟨fun _ => hS, H⟩
      · obtain ⟨hju, y, hjy, hall⟩ := mem_ready.1 hj
        have hiA : A.getD i false ≠ true := by
          have h0 := (mem_ready.1 hr).1
          intro h1
          rcases Nat.lt_or_ge i A.size with h' | h'
          · simp [h'] at h0 h1; rw [h0] at h1; cases h1
          · simp [Array.getElem?_eq_none h'] at h1
        have hfree : ∀ e ∈ y.after, Region.binds md e = true → e.on ≠ i := fun e he hb h => hiA (h ▸ hall e he hb)
        have hjl : lt ≠ j := by
          intro h
          subst h
          rw [hjy] at hwt
          obtain ⟨q, hq1, hq2⟩ := Array.any_eq_true.1 hwt
          rw [Bool.and_eq_true, beq_iff_eq] at hq2
          exact hfree _ (Array.getElem_mem hq1) hq2.1 hq2.2
        have hlt2 : (A.setIfInBounds j true).getD lt false = false := by rw [getD_set_ne false (Ne.symm hjl)]; exact hlt
        have k := wpOp_putIf hjy (hap j y hjy e hju hfree) (fun cs b => hsel i x cs b hi) (fun cs b => hsel j y cs b hjy) hq hy (H.2 j (ready_mono hj e))
        refine wpOp_mono (fun b u k => ?_) k
        have hSu : S u := k.2.1 (by rw [getD_set_ne false (Ne.symm hjl), getD_set_ne false (Ne.symm hne)]; exact hlt)
        refine ⟨fun _ => hSu, ih _ b u (fun m z hz hm hun hno => ?_) hlt2 (ready_mono hr (Ne.symm e)) k.1 hSu ?_⟩
        · by_cases h : j = m
          · subst h; exact hap j z hz hm hju hno
          · rw [getD_set_ne true h] at hun; exact hap m z hz hm hun hno
        · rw [Array.setIfInBounds_comm _ _ e]; exact k.2.2

theorem anyL_take {P : Program} {ops : Array Oper} {Q : Exit → Act → World → Prop} {md : Region.Mode} {S : World → Prop} {lt : Nat} {i : Nat} {x : Oper} {v : Value} {n : Nat} {A : Array Bool} {a : Act} {w : World} (hi : ops[i]? = some x)
    (hs : Region.noSelect ops = true) (hf : Region.free md ops A i = true) (hr : (Region.ready md ops A).contains i = true) (hL : (lateB md ops lt i && !A.getD lt false) = true)
    (hq : ∀ c a w, Q (.panic c) (a.put x.dst v) w → Q (.panic c) a w) (hy : YieldsIf P ops S x v a) (hS : S w)
    (h : AnyL P md ops Q S lt n (A.setIfInBounds i true) (a.put x.dst v) w) : AnyL P md ops Q S lt (n + 1) A a w := by
  rw [Bool.and_eq_true, Bool.not_eq_true'] at hL
  exact anyL_first hi (Region.noSelect_spec hs) hq hL.1 n A a w (Region.free_spec hi hf) hL.2 (by simpa using hr) hy hS h

/-- Those that may come now, each by itself. -/
def ReadyL (P : Program) (md : Region.Mode) (ops : Array Oper) (Q : Exit → Act → World → Prop) (S : World → Prop) (lt n : Nat) (A : Array Bool) (a : Act) (w : World) (rs : List Nat) : Prop :=
  ∀ i, i ∈ rs → wpOp P ops Q i (fun b v => ((A.setIfInBounds i true).getD lt false = false → S v) ∧ AnyL P md ops Q S lt n (A.setIfInBounds i true) b v) a w
theorem ReadyL.nil {P : Program} {ops : Array Oper} {Q : Exit → Act → World → Prop} {md : Region.Mode} {S : World → Prop} {lt : Nat} {n : Nat} {A : Array Bool} {a : Act} {w : World} : ReadyL P md ops Q S lt n A a w [] := fun _ h => by cases h
theorem ReadyL.cons {P : Program} {ops : Array Oper} {Q : Exit → Act → World → Prop} {md : Region.Mode} {S : World → Prop} {lt : Nat} {n : Nat} {A : Array Bool} {a : Act} {w : World} {i : Nat} {x : Oper} {rs : List Nat} (hx : ops[i]? = some x)
    (h : ∀ K : Act → World → Prop, Hid (∀ b v, S v → (S v → AnyL P md ops Q S lt n (A.setIfInBounds i true) b v) → K b v) → if Region.wanted x (yielded ops a.tmps) = true then Oper.wp P x a w K Q else K (a.put x.dst undef) w)
    (hs : ReadyL P md ops Q S lt n A a w rs) : ReadyL P md ops Q S lt n A a w (i :: rs) := fun j hj => by
  rcases List.mem_cons.1 hj with rfl | hj
  · exact wpOp_step hx (fun K hK => h K (fun b v hS k => hK b v ⟨fun _ => hS, k hS⟩))
  · exact hs j hj
/-- Behind the late one nothing is owed. -/
theorem ReadyL.late {P : Program} {ops : Array Oper} {Q : Exit → Act → World → Prop} {md : Region.Mode} {S : World → Prop} {lt : Nat} {n : Nat} {A : Array Bool} {a : Act} {w : World} {i : Nat} {x : Oper} {rs : List Nat} (hx : ops[i]? = some x) (hA : (A.setIfInBounds i true).getD lt false = true)
    (h : ∀ K : Act → World → Prop, Hid (∀ b v, AnyL P md ops Q S lt n (A.setIfInBounds i true) b v → K b v) → if Region.wanted x (yielded ops a.tmps) = true then Oper.wp P x a w K Q else K (a.put x.dst undef) w)
    (hs : ReadyL P md ops Q S lt n A a w rs) : ReadyL P md ops Q S lt n A a w (i :: rs) := fun j hj => by
  rcases List.mem_cons.1 hj with rfl | hj
  · exact wpOp_step hx (fun K hK => h K (fun b v k => hK b v ⟨fun e => by (rw [hA] at e; cases e), k⟩))
  · exact hs j hj
theorem anyL_ready {P : Program} {ops : Array Oper} {Q : Exit → Act → World → Prop} {md : Region.Mode} {S : World → Prop} {lt : Nat} {rs : List Nat} {n : Nat} {A : Array Bool} {a : Act} {w : World} (hr : Region.ready md ops A = rs) (hne : rs ≠ [])
    (h : ReadyL P md ops Q S lt n A a w rs) : AnyL P md ops Q S lt (n + 1) A a w := ⟨fun e => absurd (hr ▸ e) hne, hr ▸ h⟩
theorem anyL_done {P : Program} {ops : Array Oper} {Q : Exit → Act → World → Prop} {md : Region.Mode} {S : World → Prop} {lt : Nat} {A : Array Bool} {a : Act} {w : World} (hr : Region.ready md ops A = []) (h : Q .normal a w) : ∀ n, AnyL P md ops Q S lt n A a w
  | 0 => ⟨hr, h⟩
  | _ + 1 => ⟨fun _ => h, by rw [hr]; simp⟩
theorem region_late {P : Program} {ops : Array Oper} {Q : Exit → Act → World → Prop} {id : Nat} {a : Act} {w : World} (S : World → Prop) (lt : Nat) (hm : P.follows .mixedOrders = true)
    (h : AnyL P .any ops Q S lt ops.size (Array.replicate ops.size false) a w.drew) : (Code.region id ops true).wp P Q a w :=
  wp_region_any hm (anyL_any _ _ _ _ h)
/-- append, as one step. -/
theorem step_append {P : Program} {ops : Array Oper} {o : Oper} {a : Act} {w w' : World} {K : Act → World → Prop} {Q : Exit → Act → World → Prop} {E : Prop} (hg : o.guard = none) (s x : Operand) (t : TypeId)
    (hop : o.op = Op.call { callee := Callee.builtin Builtin.append, args := #[s, x], argTypes := #[t, t] }) {v y r : Value} (hs : a.eval s = v) (hx : a.eval x = y) (hr : (Builtin.append_ #[t, t] o.type #[v, y]).run P w = .ok r w')
    (hK : K (a.put o.dst r) w') : if Region.wanted o (yielded ops a.tmps) = true then Oper.wp P o a w K Q else E := by
  have hw : Region.wanted o (yielded ops a.tmps) = true := by simp [Region.wanted, hg]
  rw [if_pos hw]
  unfold Oper.wp
  simp [execOp, hop, resolve, invoke, builtin, hs, hx, hr, Result.andThen]
  exact hK

end Go.Proofs.Ytgndnodahlabiaa
