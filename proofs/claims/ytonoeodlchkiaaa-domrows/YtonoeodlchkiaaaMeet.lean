/-
  meet and edges (layer 7): the contract of meet, and the iterator's own word.
-/
import Derived.Test.YtonoeodlchkiaaaDomP
import Derived.Test.YtonoeodlchkiaaaSame
namespace Go.Proofs.Ytonoeodlchkiaaa
open Go.ChangeShapes Go.WideShapes Go.ChangeAt Go.RowKit Go.Shelf

attribute [local go_sem] Oper.semAt_some

/-- A block's place in an order, from 0 on; -1 of one that is not there. -/
def plI (l : List Nat) (x : Nat) : Int := (plc l x : Int) - 1

/-- How meet goes: the later one asks. -/
inductive Meets (l : List Nat) (d : List Int) : Nat → Nat → Nat → Prop
  | done (a : Nat) : Meets l d a a a
  | left {a b z c : Nat} : a ≠ b → plc l b < plc l a → ask d a = (z : Int) → Meets l d z b c → Meets l d a b c
  | right {a b z c : Nat} : a ≠ b → plc l a < plc l b → ask d b = (z : Int) → Meets l d a z c → Meets l d a b c
theorem meets_ex {g : List (List Nat)} {o : List Nat} (ho : Ord g o) {d : List Int} (hd : Tr g o d) : ∀ (n a b : Nat), plc o.reverse a + plc o.reverse b ≤ n → Told o d a → Told o d b → ∃ c, Meets o.reverse d a b c := by
  intro n
  induction n with
  | zero => intro a b h ha _; exact absurd (by omega) ((ho.pos a).1 ha.1)
  | succ n ih =>
    intro a b h ha hb
    by_cases hab : a = b
    · subst hab; exact ⟨a, .done a⟩
    · have hinj : plc o.reverse a ≠ plc o.reverse b := fun e => hab (ho.inj a ha.1 b hb.1 e)
      by_cases hlt : plc o.reverse b < plc o.reverse a
      · obtain ⟨z, h1, h2, h3, _⟩ := hd.step ho ha hb hlt
        obtain ⟨c, hc⟩ := ih z b (by omega) h2 hb
        exact ⟨c, .left hab hlt h1 hc⟩
      · obtain ⟨z, h1, h2, h3, _⟩ := hd.step ho hb ha (by omega)
        obtain ⟨c, hc⟩ := ih a z (by omega) ha h2
        exact ⟨c, .right hab (by omega) h1 hc⟩
theorem Meets.told {g : List (List Nat)} {o : List Nat} (ho : Ord g o) {d : List Int} (hd : Tr g o d) {a b c : Nat} (h : Meets o.reverse d a b c) : Told o d a → Told o d b → Anc d a c ∧ Anc d b c ∧ ∀ z, Dom g z a → Dom g z b → Dom g z c := by
  induction h with
  | done a => exact fun _ _ => ⟨.refl a, .refl a, fun z h _ => h⟩
  | @left a b z c hab hlt hz _ ih =>
    intro ha hb
    obtain ⟨z', h1, h2, h3, h4⟩ := hd.step ho ha hb hlt
    have : z' = z := by rw [hz] at h1; omega
    subst this
    obtain ⟨k1, k2, k3⟩ := ih h2 hb
    exact ⟨.up hz k1, k2, fun x hx hy => k3 x (h4 x hx hy) hy⟩
  | @right a b z c hab hlt hz _ ih =>
    intro ha hb
    obtain ⟨z', h1, h2, h3, h4⟩ := hd.step ho hb ha hlt
    have : z' = z := by rw [hz] at h1; omega
    subst this
    obtain ⟨k1, k2, k3⟩ := ih ha h2
    exact ⟨k1, .up hz k2, fun x hx hy => k3 x hx (h4 x hy hx)⟩

set_option maxRecDepth 100000 in
set_option maxHeartbeats 2000000 in
theorem meet_is (g : List (List Nat)) (o : List Nat) (ho : Ord g o) (d : List Int) (hd : Tr g o d) (hn : g.length ≤ 4096) (Pb Db : Nat) (a b c : Nat) (ha : Told o d a) (hb : Told o d b) (hm : Meets o.reverse d a b c) (w : World)
    (hP : ∀ x, x ∈ o → w.cell? ⟨Pb, x, none⟩ = some (.int .i64 (plI o.reverse x))) (hD : ∀ x, x < g.length → w.cell? ⟨Db, x, none⟩ = some (.int .i64 (ask d x))) :
    Calls Try.prog 47 #[.slice (some ⟨Pb, 0, none⟩) g.length g.length, .slice (some ⟨Db, 0, none⟩) g.length g.length, .int .i64 (a : Int), .int .i64 (b : Int)] w fun e w' => e = .returned (.int .i64 (c : Int)) ∧ ∃ q, w' = w.drewN q := by
  have HP := hide hP
  have HD := hide hD
  have HT := hide hd
  have HO := hide ho
  clear hP hD hd ho
  go_enter Try.func47, Try.ntmps47
  go_wp2
  go_loopw [2, 3] (fun x y W => ∃ (a' b' q : Nat), x = .int .i64 (a' : Int) ∧ y = .int .i64 (b' : Int) ∧ W = w.drewN q ∧ Told o d a' ∧ Told o d b' ∧ Meets o.reverse d a' b' c) (fun x y _ => plc o.reverse (intOf x).toNat + plc o.reverse (intOf y).toNat)
  case atStart => exact ⟨a, b, 0, rfl, rfl, rfl, ha, hb, hm⟩
  case round =>
    clear ha hb hm
    obtain ⟨x, y, q, rfl, rfl, rfl, hx, hy, hm⟩ := hrel
    have hxl := HO.out.lt x hx.1
    have hyl := HO.out.lt y hy.1
    by_cases hxy : x = y
    · subst hxy
      have hc : c = x := by
        cases hm with
        | done => rfl
        | left h => exact absurd rfl h
        | right h => exact absurd rfl h
      have HC := hide hc
      have e1 : ((x : Int) != (x : Int)) = false := by simp
      clear hx hy hm hc
      go_wp2
      go_ret
      exact ⟨by rw [HC.out]; rfl, q, rfl⟩
    · have e1 : ((x : Int) != (y : Int)) = true := by simp; omega
      have e2 : ((x : Int) = (y : Int)) = False := eq_false (by omega)
      have c1 := HP.out x hx.1
      have c2 := HP.out y hy.1
      have c3 := HD.out x hxl
      have c4 := HD.out y hyl
      have hxi : ((x : Int) < (g.length : Int)) = True := eq_true (by omega)
      have hyi : ((y : Int) < (g.length : Int)) = True := eq_true (by omega)
      have hxb : x ≤ 4096 := by omega
      have hyb : y ≤ 4096 := by omega
      by_cases hlt : plc o.reverse y < plc o.reverse x
      · obtain ⟨z, h1, h2, h3, -⟩ := HT.out.step HO.out hx hy hlt
        have hm2 : Meets o.reverse d z y c := by
          cases hm with
          | done => exact absurd rfl hxy
          | @left _ _ z' _ _ _ hz k =>
            have e : z' = z := by rw [hz] at h1; omega
            rw [← e]; exact k
          | right _ h => omega
        rw [h1] at c3
        have e3 : (plI o.reverse y < plI o.reverse x) = True := eq_true (by unfold plI; omega)
        have e4 : decide (plI o.reverse y < plI o.reverse x) = true := by simp [e3]
        have HN : Hid (Told o d z ∧ Told o d y ∧ Meets o.reverse d z y c ∧ plc o.reverse z < plc o.reverse x) := ⟨h2, hy, hm2, h3⟩
        clear h1 h2 h3 hx hy hm hm2 hlt hxy
        generalize plI o.reverse x = px at *
        generalize plI o.reverse y = py at *
        generalize ask d y = ay at *
        go_wp2
        go_quiet (fail)
        go_wp2
        go_roundw
        case rel => exact ⟨z, y, q + nq, rfl, rfl, rfl, HN.out.1, HN.out.2.1, HN.out.2.2.1⟩
        case measure => have := HN.out.2.2.2; simp [intOf]; omega
      · have hinj : plc o.reverse x ≠ plc o.reverse y := fun e => hxy (HO.out.inj x hx.1 y hy.1 e)
        obtain ⟨z, h1, h2, h3, -⟩ := HT.out.step HO.out hy hx (by omega)
        have hm2 : Meets o.reverse d x z c := by
          cases hm with
          | done => exact absurd rfl hxy
          | @right _ _ z' _ _ _ hz k =>
            have e : z' = z := by rw [hz] at h1; omega
            rw [← e]; exact k
          | left _ h => omega
        rw [h1] at c4
        have e3 : (plI o.reverse y < plI o.reverse x) = False := eq_false (by unfold plI; omega)
        have e4 : decide (plI o.reverse y < plI o.reverse x) = false := by simp [e3]
        have HN : Hid (Told o d x ∧ Told o d z ∧ Meets o.reverse d x z c ∧ plc o.reverse z < plc o.reverse y) := ⟨hx, h2, hm2, h3⟩
        clear h1 h2 h3 hx hy hm hm2 hlt hinj hxy
        generalize plI o.reverse x = px at *
        generalize plI o.reverse y = py at *
        generalize ask d x = ax at *
        go_wp2
        go_quiet (fail)
        go_wp2
        go_roundw
        case rel => exact ⟨x, z, q + nq, rfl, rfl, rfl, HN.out.1, HN.out.2.1, HN.out.2.2.1⟩
        case measure => have := HN.out.2.2.2; simp [intOf]; omega

/-- The edges of the first i blocks of an order, and of the next one the first k. -/
def edO (g : List (List Nat)) (l : List Nat) (i k : Nat) : List (Nat × Nat) := ((l.take i).flatMap fun f => (g.getD f []).map fun t => (f, t)) ++ ((g.getD (l.getD i 0) []).take k).map fun t => (l.getD i 0, t)
theorem edO_zero (g : List (List Nat)) (l : List Nat) : edO g l 0 0 = [] := by simp [edO]
theorem edO_next (g : List (List Nat)) (l : List Nat) (i k : Nat) (hi : i < l.length) (hk : (g.getD (l.getD i 0) []).length ≤ k) : edO g l i k = edO g l (i + 1) 0 := by
  unfold edO
  rw [List.take_of_length_le hk, take_next l i hi, List.flatMap_append]; simp
theorem edO_succ (g : List (List Nat)) (l : List Nat) (i k : Nat) (hk : k < (g.getD (l.getD i 0) []).length) : edO g l i (k + 1) = edO g l i k ++ [(l.getD i 0, (g.getD (l.getD i 0) []).getD k 0)] := by
  unfold edO
  rw [take_next _ k hk, List.map_append, List.append_assoc]; rfl
def nextO (g : List (List Nat)) (l : List Nat) (s : List (Nat × Nat)) (x : Nat × Nat) : Prop := ∃ i k, i < l.length ∧ k < (g.getD (l.getD i 0) []).length ∧ s = edO g l i k ∧ x = (l.getD i 0, (g.getD (l.getD i 0) []).getD k 0)
abbrev encP (x : Nat × Nat) : Array Value := #[.int .i64 (x.1 : Int), .int .i64 (x.2 : Int)]

set_option maxRecDepth 100000 in
set_option maxHeartbeats 2000000 in
theorem edgesO_gives (Bl Bo blk off cap OB ocap : Nat) (hd : Nat → Hdr) (g : List (List Nat)) (l : List Nat) (av : Option Addr) (hgr : Right g) (hl : l.length ≤ 4096) (hll : ∀ x ∈ l, x < g.length) (W1 : World) (L : Nat) (hO : W1.heap[Bo]? = some (.cells #[.slice (some ⟨OB, 0, none⟩) l.length ocap] 25 (0, 0)))
    : Gives 58 #[.pointer (some ⟨Bo, 0, none⟩), .pointer (some ⟨Bl, 0, none⟩)] encP (fun _ => False) (fun W => GAt W av blk off hd (castG g) ∧ (∀ k, k < l.length → W.cell? ⟨OB, k, none⟩ = some (.int .i64 ((l.getD k 0 : Nat) : Int))) ∧ W.heap[Bl]? = some (.cells #[.slice av g.length cap] 22 (0, 0))) (nextO g l) (fun s _ => s = edO g l l.length 0) W1 L 0 := by
  intro J Jx htu hsz hrd hY h0
  have HY : Hid (∀ s x W, J s W → nextO g l s x → YieldAt Fence.wide 0 Try.prog L (encP x) W fun e W' => (e = .returned (.bool true) ∧ J (s ++ [x]) W') ∨ (e = .returned (.bool false) ∧ Jx W')) := fun s x W hJ hx => (hY s x W hJ hx (hsz s W hJ)).mono fun e W' h => h.imp (fun h => ⟨h.1, h.2.1⟩) id
  have HRD : Hid (∀ s W, J s W → GAt W av blk off hd (castG g) ∧ (∀ k, k < l.length → W.cell? ⟨OB, k, none⟩ = some (.int .i64 ((l.getD k 0 : Nat) : Int))) ∧ W.heap[Bl]? = some (.cells #[.slice av g.length cap] 22 (0, 0))) := hrd
  have c1 : W1.cell? ⟨Bo, 0, none⟩ = some (.slice (some ⟨OB, 0, none⟩) l.length ocap) := cell_of hO 0
  have hrows := hgr.rows
  have HLL := hide hll
  clear hY hrd htu hsz hO hll
  refine callsIn_of_wp Try.func58 rfl trivial ?_ rfl
  simp only [Try.ntmps58, List.size_toArray, List.length_cons, List.length_nil, Nat.reduceAdd, Nat.reduceSub, Array.replicate_succ, Array.replicate_zero, List.push_toArray, List.append_toArray, List.nil_append, List.cons_append]
  gi_wp2
  clear c1
  gi_loopw [10] (fun i wr => ∃ k : Nat, i = .int .i64 k ∧ k ≤ l.length ∧ J (edO g l k 0) wr) (fun i _ => l.length - (intOf i).toNat)
  case atStart => exact ⟨0, rfl, Nat.zero_le _, by rw [edO_zero]; exact h0⟩
  case round =>
    obtain ⟨k, rfl, hk, hJ⟩ := hrel
    clear h0
    by_cases hlt : k < l.length
    · have e1 : ((k : Int) < (l.length : Int)) = True := by simp; omega
      obtain ⟨hG, hoc, hbl⟩ := HRD.out _ _ hJ
      have hfl := HLL.out _ (getD_mem l k hlt)
      obtain rfl := hG.at_ (by rw [castG_len]; omega)
      have c2 := hoc k hlt
      have c3 : wr.cell? ⟨Bl, 0, none⟩ = some (.slice (some ⟨blk, off, none⟩) g.length cap) := cell_of hbl 0
      have c4 := hG.has (l.getD k 0) (by rw [castG_len]; exact hfl)
      rw [castG_at, List.length_map] at c4
      have hrl := hrows (l.getD k 0)
      have hat : 0 < (g.getD (l.getD k 0) []).length → (hd (l.getD k 0)).av = some ⟨(hd (l.getD k 0)).blk, (hd (l.getD k 0)).off, none⟩ := by
        have := hG.rat (l.getD k 0) (by rw [castG_len]; exact hfl); rwa [castG_at, List.length_map] at this
      have HL := hide hlt
      have HE : Hid (∀ j, j < (g.getD (l.getD k 0) []).length → edO g l k (j + 1) = edO g l k j ++ [(l.getD k 0, (g.getD (l.getD k 0) []).getD j 0)]) := fun j hj => edO_succ g l k j hj
      have HN : Hid (∀ j, (g.getD (l.getD k 0) []).length ≤ j → edO g l k j = edO g l (k + 1) 0) := fun j hj => edO_next g l k j hlt hj
      have HX : Hid (∀ j, j < (g.getD (l.getD k 0) []).length → nextO g l (edO g l k j) (l.getD k 0, (g.getD (l.getD k 0) []).getD j 0)) := fun j hj => ⟨k, j, hlt, hj, rfl, rfl⟩
      have HH : Hid (∀ W s, J s W → ∀ j, j < (g.getD (l.getD k 0) []).length → W.cell? ⟨(hd (l.getD k 0)).blk, (hd (l.getD k 0)).off + j, none⟩ = some (.int .i64 (((g.getD (l.getD k 0) []).getD j 0 : Nat) : Int))) := fun W s hJ j hj => by
        have := (HRD.out _ _ hJ).1.rhas (l.getD k 0) j (by rw [castG_len]; exact hfl) (by rw [castG_at, List.length_map]; exact hj)
        rwa [castG_at, cast_at] at this
      have hgl := hgr.most
      clear hG hoc hbl
      generalize l.getD k 0 = f at *
      generalize hrow : g.getD f [] = row at *
      clear hrow
      generalize hn : row.length = n at *
      have HLN : Hid (row.length = n) := hn
      clear hn
      have hfi : ((f : Int) < (g.length : Int)) = True := eq_true (by omega)
      have hfb : f ≤ 4096 := by omega
      gi_wp2
      gi_loopw [19] (fun i wr => ∃ j : Nat, i = .int .i64 j ∧ j ≤ n ∧ J (edO g l k j) wr) (fun i _ => n - (intOf i).toNat)
      case atStart => exact ⟨0, rfl, Nat.zero_le _, hJ⟩
      case round =>
        obtain ⟨j, rfl, hj, hJ2⟩ := hrel
        by_cases hlt2 : j < n
        · have e2 : ((j : Int) < (n : Int)) = True := by simp; omega
          have hc := HH.out _ _ hJ2 j hlt2
          obtain ⟨fn, tmps, assign, body, hy, hR⟩ := HY.out _ _ _ hJ2 (HX.out j hlt2)
          have hav := hat (by omega)
          have hE : Hid (edO g l k (j + 1) = edO g l k j ++ [(f, row.getD j 0)]) := HE.out j hlt2
          clear c2 c3 c4
          generalize row.getD j 0 = x at *
          simp only [hav]
          gi_wp2
          refine ⟨rfl, hR.mono ?_⟩
          rintro e W3 (⟨rfl, hJ3⟩ | ⟨rfl, hJx3⟩)
          · clear hR hy hc
            gi_wp2
            exact ⟨⟨j + 1, by go_num, hlt2, by rw [hE.out]; exact hJ3⟩, by simp [intOf]; omega⟩
          · gi_wp2
            refine bodyPost_ret (results_none rfl _ _ _) rfl ?_
            exact ⟨⟨_, rfl⟩, .inr hJx3⟩
        · have e2 : ((j : Int) < (n : Int)) = False := by simp; omega
          gi_wp2
          exact ⟨⟨k + 1, by go_num, HL.out, by rw [← HN.out j (by omega)]; exact hJ2⟩, by simp [intOf]; omega⟩
    · have e1 : ((k : Int) < (l.length : Int)) = False := by simp; omega
      gi_wp2
      go_end0
      obtain rfl : k = l.length := by omega
      exact ⟨⟨_, rfl⟩, .inl ⟨_, rfl, hJ⟩⟩
theorem enter58 (args : Array Value) (w : World) : (callFunc 58 args).run Try.prog w = .ok (.enter 58 args) w := by simp [go_sem]

end Go.Proofs.Ytonoeodlchkiaaa
