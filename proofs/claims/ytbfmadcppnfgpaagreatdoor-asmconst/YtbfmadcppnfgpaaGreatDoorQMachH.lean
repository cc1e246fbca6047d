/-
  Package machine (layer 4): what each instruction does, told plainly; one contract for all of them; actionOf.
-/
import Derived.Test.YtbfmadcppnfgpaaGreatDoorQMachC
import Derived.Test.YtbfmadcppnfgpaaGreatDoorQMachE
import Derived.Test.YtbfmadcppnfgpaaGreatDoorQMachF
import Derived.Test.YtbfmadcppnfgpaaGreatDoorQMachS
import Derived.Test.YtbfmadcppnfgpaaGreatDoorQMachI
import Derived.Test.YtbfmadcppnfgpaaGreatDoorQMachO
import Derived.Test.YtbfmadcppnfgpaaGreatDoorQMachL
namespace Go.Proofs.YtbfmadcppnfgpaaGreatDoor.Q
open Go.ChangeShapes Go.WideShapes Go.ChangeAt Go.RowKit

/-- What instruction (o, a, b, c, i) does: the state, the next place, the error. -/
def act (o a b c : Nat) (i : Int) (s : MS) : MS × Int × Int := match o with
  | 0 => (s.fin 0 i, s.place, 0)
  | 1 => s.put a i
  | 2 => s.put a (high (s.r a) i)
  | 3 => s.put a (s.r b)
  | 4 => s.bin a (doV i (s.r b) (s.r c)) (doE i (s.r c))
  | 5 => s.ld a (s.sum b i)
  | 6 => s.st (s.sum b i) (s.r a)
  | 7 => (s, i, 0)
  | 8 => (s, if s.r a = 0 then i else s.place + 1, 0)
  | 9 => ({ s with regs := s.regs.set 15 (s.place + 1) }, i, 0)
  | 10 => (s, s.r 15, 0)
  | 11 => s.take a
  | 12 => ({ s with out := s.out ++ [s.r a] }, s.place + 1, 0)
  | 13 => s.grow a (s.r b)
  | _ => s.put a (s.sum b i)

theorem ans_of {w : World} {F D : Nat → Prop} {B Q R : Nat} {cv nv ov : Value} {l : List Ins} {r : MS × Int × Int} {p q : Int} {f : FuncId} {args : Array Value}
    (h : Calls Tryz.prog f args w fun e w' => e = two r ∧ Moves F w w' ∧ Mach w' F D B Q R cv nv ov l r.1 p q) : Calls Tryz.prog f args w fun e w' => e = two r ∧ Ans w F B l r.1 w' :=
  h.mono fun _ _ ⟨h1, h2, h3⟩ => ⟨h1, h2, F, fun _ h => .inl h, h3.mac⟩
theorem ans_ofx {w : World} {F D : Nat → Prop} {B Q R : Nat} {cv ov : Value} {l : List Ins} {r : MS × Int × Int} {f : FuncId} {args : Array Value}
    (h : Calls Tryz.prog f args w fun e w' => e = two r ∧ Moves F w w' ∧ ∃ nv' p' q', Mach w' F D B Q R cv nv' ov l r.1 p' q') : Calls Tryz.prog f args w fun e w' => e = two r ∧ Ans w F B l r.1 w' :=
  h.mono fun _ _ ⟨h1, h2, _, _, _, h3⟩ => ⟨h1, h2, F, fun _ h => .inl h, h3.mac⟩

theorem act_any {w : World} {F D : Nat → Prop} {B Q R : Nat} {cv nv ov : Value} {l : List Ins} {s : MS} {p q : Int} (m : Mach w F D B Q R cv nv ov l s p q) (o a b c : Nat) (i : Int) (ho : o < 15) (ha : a < 16) (hb : b < 16) (hc : c < 16)
    (h1 : 0 ≤ s.place) (h2 : s.place < 1048576) (h3 : s.out.length ≤ 10000000) :
    Calls Tryz.prog (57 + o) #[ptr B, av o a b c i] w fun e w' => e = two (act o a b c i s) ∧ Ans w F B l (act o a b c i s).1 w' := by
  match o, ho with
  | 0, _ => exact ans_of (halt_any m 0 a b c i)
  | 1, _ => exact ans_of (li_any m 1 a b c i ha h1 h2)
  | 2, _ => exact ans_of (lih_any m 2 a b c i ha h1 h2)
  | 3, _ => exact ans_of (mov_any m 3 a b c i ha hb h1 h2)
  | 4, _ => exact ans_of (bin_any m 4 a b c i ha hb hc h1 h2)
  | 5, _ => exact ans_ofx (ld_any m 5 a b c i ha hb h1 h2)
  | 6, _ => exact ans_ofx (st_any m 6 a b c i ha hb h1 h2)
  | 7, _ => exact ans_of (jmp_any m 7 a b c i)
  | 8, _ => exact ans_of (jz_any m 8 a b c i ha h1 h2)
  | 9, _ => exact ans_of (call_any m 9 a b c i h1 h2)
  | 10, _ => exact ans_of (ret_any m 10 a b c i)
  | 11, _ =>
    show Calls Tryz.prog 68 _ w fun e w' => e = two (s.take a) ∧ Ans w F B l (s.take a).1 w'
    unfold MS.take
    cases hi : s.inp with
    | nil => exact ans_of (in_none m 11 a b c i hi)
    | cons x r => exact ans_ofx (in_some m 11 a b c i x r hi ha h1 h2)
  | 12, _ => exact (out_any m 12 a b c i ha h1 h2 h3).mono fun _ _ h => h
  | 13, _ => exact ans_of (alloc_act m 13 a b c i ha hb h1 h2)
  | 14, _ => exact ans_of (addi_any m 14 a b c i ha hb h1 h2)
  | n + 15, h => exact absurd h (by omega)

theorem actionOf_0 (w : World) : Calls Tryz.prog 48 #[iv 0] w fun e w' => e = .returned (.func (.func 57) #[] #[]) ∧ w' = w := by
  go_enter Tryz.func48, Tryz.ntmps48
  go_wp2
  go_ret
  exact ⟨rfl, rfl⟩
theorem actionOf_1 (w : World) : Calls Tryz.prog 48 #[iv 1] w fun e w' => e = .returned (.func (.func 58) #[] #[]) ∧ w' = w := by
  go_enter Tryz.func48, Tryz.ntmps48
  go_wp2
  go_ret
  exact ⟨rfl, rfl⟩
theorem actionOf_2 (w : World) : Calls Tryz.prog 48 #[iv 2] w fun e w' => e = .returned (.func (.func 59) #[] #[]) ∧ w' = w := by
  go_enter Tryz.func48, Tryz.ntmps48
  go_wp2
  go_ret
  exact ⟨rfl, rfl⟩
theorem actionOf_3 (w : World) : Calls Tryz.prog 48 #[iv 3] w fun e w' => e = .returned (.func (.func 60) #[] #[]) ∧ w' = w := by
  go_enter Tryz.func48, Tryz.ntmps48
  go_wp2
  go_ret
  exact ⟨rfl, rfl⟩
theorem actionOf_4 (w : World) : Calls Tryz.prog 48 #[iv 4] w fun e w' => e = .returned (.func (.func 61) #[] #[]) ∧ w' = w := by
  go_enter Tryz.func48, Tryz.ntmps48
  go_wp2
  go_ret
  exact ⟨rfl, rfl⟩
theorem actionOf_5 (w : World) : Calls Tryz.prog 48 #[iv 5] w fun e w' => e = .returned (.func (.func 62) #[] #[]) ∧ w' = w := by
  go_enter Tryz.func48, Tryz.ntmps48
  go_wp2
  go_ret
  exact ⟨rfl, rfl⟩
theorem actionOf_6 (w : World) : Calls Tryz.prog 48 #[iv 6] w fun e w' => e = .returned (.func (.func 63) #[] #[]) ∧ w' = w := by
  go_enter Tryz.func48, Tryz.ntmps48
  go_wp2
  go_ret
  exact ⟨rfl, rfl⟩
theorem actionOf_7 (w : World) : Calls Tryz.prog 48 #[iv 7] w fun e w' => e = .returned (.func (.func 64) #[] #[]) ∧ w' = w := by
  go_enter Tryz.func48, Tryz.ntmps48
  go_wp2
  go_ret
  exact ⟨rfl, rfl⟩
theorem actionOf_8 (w : World) : Calls Tryz.prog 48 #[iv 8] w fun e w' => e = .returned (.func (.func 65) #[] #[]) ∧ w' = w := by
  go_enter Tryz.func48, Tryz.ntmps48
  go_wp2
  go_ret
  exact ⟨rfl, rfl⟩
theorem actionOf_9 (w : World) : Calls Tryz.prog 48 #[iv 9] w fun e w' => e = .returned (.func (.func 66) #[] #[]) ∧ w' = w := by
  go_enter Tryz.func48, Tryz.ntmps48
  go_wp2
  go_ret
  exact ⟨rfl, rfl⟩
theorem actionOf_10 (w : World) : Calls Tryz.prog 48 #[iv 10] w fun e w' => e = .returned (.func (.func 67) #[] #[]) ∧ w' = w := by
  go_enter Tryz.func48, Tryz.ntmps48
  go_wp2
  go_ret
  exact ⟨rfl, rfl⟩
theorem actionOf_11 (w : World) : Calls Tryz.prog 48 #[iv 11] w fun e w' => e = .returned (.func (.func 68) #[] #[]) ∧ w' = w := by
  go_enter Tryz.func48, Tryz.ntmps48
  go_wp2
  go_ret
  exact ⟨rfl, rfl⟩
theorem actionOf_12 (w : World) : Calls Tryz.prog 48 #[iv 12] w fun e w' => e = .returned (.func (.func 69) #[] #[]) ∧ w' = w := by
  go_enter Tryz.func48, Tryz.ntmps48
  go_wp2
  go_ret
  exact ⟨rfl, rfl⟩
theorem actionOf_13 (w : World) : Calls Tryz.prog 48 #[iv 13] w fun e w' => e = .returned (.func (.func 70) #[] #[]) ∧ w' = w := by
  go_enter Tryz.func48, Tryz.ntmps48
  go_wp2
  go_ret
  exact ⟨rfl, rfl⟩
theorem actionOf_14 (w : World) : Calls Tryz.prog 48 #[iv 14] w fun e w' => e = .returned (.func (.func 71) #[] #[]) ∧ w' = w := by
  go_enter Tryz.func48, Tryz.ntmps48
  go_wp2
  go_ret
  exact ⟨rfl, rfl⟩
theorem actionOf_any (o : Nat) (ho : o < 15) (w : World) : Calls Tryz.prog 48 #[iv o] w fun e w' => e = .returned (.func (.func (57 + o)) #[] #[]) ∧ w' = w := by
  match o, ho with
  | 0, _ => exact actionOf_0 w
  | 1, _ => exact actionOf_1 w
  | 2, _ => exact actionOf_2 w
  | 3, _ => exact actionOf_3 w
  | 4, _ => exact actionOf_4 w
  | 5, _ => exact actionOf_5 w
  | 6, _ => exact actionOf_6 w
  | 7, _ => exact actionOf_7 w
  | 8, _ => exact actionOf_8 w
  | 9, _ => exact actionOf_9 w
  | 10, _ => exact actionOf_10 w
  | 11, _ => exact actionOf_11 w
  | 12, _ => exact actionOf_12 w
  | 13, _ => exact actionOf_13 w
  | 14, _ => exact actionOf_14 w
  | n + 15, h => exact absurd h (by omega)

end Go.Proofs.YtbfmadcppnfgpaaGreatDoor.Q
