/- Slices in memory: what a slice's cells hold, carried over whatever leaves old blocks as they were; rows of the call's own, of runes and of bytes. The document's Copy: a tree of its own, its row its own. A row of nodes that a call makes out of the Kids of others. Refs: plain functions and facts; no program is named here. Refs in memory: where their parts lie, what their cells hold; lists of them. A ref by its number, and the others: the document's Get and Free. The refs without the first one of a number: the document's Free. Refs told anew: slices.Clone, fresh. Where the first ref with a number stands: slices.IndexFunc, find. Get, Free: the program's. -/
import Derived.Test.YtmglnjmnabjjgaaJGText
import Derived.Test.YtmglnjmnabjjgaaProg
import Derived.WalkKit
import Derived.WalkLawsBesides
import Derived.WalkSpells
import Derived.LoopTactic
import Derived.Outline
import Derived.Deep.Draws
import Derived.Deep.QuietTactic
import Derived.BigQuiet
import Derived.Below
import Derived.Laws.OwnMore
import Derived.Laws.MakeOwn
import Derived.Maps.AppendAt
import Derived.Deep.AppendLies
import Derived.RegionTactic
import Derived.OwnWalk
import Derived.WideShapes
import Derived.IntWalk
import Derived.Test.YtmglnjmnabjjgaaJKCmp
import Derived.Laws.Strings
import Derived.Laws.EntriesVeiled
import Derived.Shelf.Abstract
import Derived.Laws.IdiomStrings
import Derived.Deep.RegionHeld3
import Derived.Deep.DeepCutAuto
import Derived.Deep.CutBlock
import Derived.Deep.RegionLaw
import Derived.Laws.AppendOwnNone
import Derived.StillTailTactics
import Derived.Test.YtmglnjmnabjjgaaJXMove5
import Derived.ArgAppend
import Derived.Lib.SliceRun
import Derived.Test.YtmglnjmnabjjgaaXMove
import Derived.Test.YtmglnjmnabjjgaaJXCalls
import Derived.Lib.AppendZeros
import Derived.Deep.Cut
import Derived.BigRegion
import Derived.Deep.MidRow
import Derived.Laws.Tables
import Derived.Laws.ResultCell
import Derived.Maps.OwnOps
import Derived.Test.YtmglnjmnabjjgaaJLOpen
import Derived.OrdersHeld
import Derived.Test.YtmglnjmnabjjgaaJLFree
import Derived.Test.YtmglnjmnabjjgaaJLFrW
namespace Go.Proofs.Ytmglnjmnabjjgaa
open Go.RowKit
open Go.WideShapes (add_plain)
section
variable {w w' : World} {B B' : Nat} {A : Option Addr} {xs : List Value}
set_option maxRecDepth 4000 in
theorem VL.take (h : VL w B A xs) (n : Nat) : VL w B A (xs.take n) := fun hn => by
  obtain ⟨b, o, e, hb, hc⟩ := h (by rintro rfl; simp at hn)
  refine ⟨b, o, e, hb, fun k u hk => hc k u ?_⟩
  rw [List.getElem?_take] at hk
  split at hk
  · exact hk
  · cases hk
set_option maxRecDepth 4000 in
theorem VL.drop (h : VL w B A xs) (n c m : Nat) (hm : m = xs.length) (hc : m ≤ c) : VL w B (if c = n then A else A.map (·.add (n * 1))) (xs.drop n) := fun hn => by
  have hl : n < xs.length := by
    rcases Nat.lt_or_ge n xs.length with h | h
    · exact h
    · exact absurd (List.drop_eq_nil_of_le h) hn
  obtain ⟨b, o, rfl, hb, hcell⟩ := h (by rintro rfl; simp at hl)
  rw [if_neg (by omega)]
  refine ⟨b, o + n, by simp [add_plain], hb, fun k u hk => ?_⟩
  rw [List.getElem?_drop] at hk
  rw [Nat.add_assoc]
  exact hcell _ u hk
end
section
variable {t : TypeId} {w w' : World} {b b' : Nat} {v : Value} {xs : List Value}
end
end Go.Proofs.Ytmglnjmnabjjgaa

namespace Go.Proofs.Ytmglnjmnabjjgaa
open Go.RowKit
open Go.WideShapes (add_plain)
set_option maxRecDepth 4000 in
theorem grown_none {W w' : World} (h : W.grownBy w' none) : Below W.heap.size W w' := ⟨h.os, h.tape, h.output, h.size, fun k hk => h.block k hk (by simp)⟩
end Go.Proofs.Ytmglnjmnabjjgaa

namespace Go.Proofs.Ytmglnjmnabjjgaa
open Go.RowKit
open Go.WideShapes (add_plain)
set_option maxRecDepth 4000 in
/-- A list appended to a row of the call's own, in a region that draws. -/
theorem step_append_GX {ts te : TypeId} {size by_ : Nat} (E : ElemG ts te size by_) (W : World) {ops : Array Oper} {o : Oper} {a : Act} {K : Act → World → Prop} {Q : Exit → Act → World → Prop} {F : Prop} (hgd : o.guard = none) (s x : Operand)
    (ho : o.op = .call { callee := .builtin .append, args := #[s, x], argTypes := #[ts, ts] })
    (b : Nat) (v : Value) (n : Nat) (k : List Value) (hs : a.eval s = v) (hO : W.ownsRow b te size v n k) (A : Option Addr) (m c B : Nat) (l : List Value) (hx : a.eval x = .slice A m c) (hn : l.length = m * size) (hp : VL W B A l) (h1 : ∀ u ∈ l, u.oneCell' = true)
    (h63 : n + m ≤ maxLen) (hby : (n + m) * by_ ≤ 140737488355328) (hb : b ≤ W.heap.size)
    (hK : ∀ A' c' w', w'.ownsRow b te size (.slice A' (n + m) c') (n + m) (k ++ l) → W.grownBy w' v.ownBlock → ((Value.slice A' (n + m) c').ownBlock = v.ownBlock ∨ ∃ g, (Value.slice A' (n + m) c').ownBlock = some g ∧ W.heap.size ≤ g) → K (a.put o.dst (.slice A' (n + m) c')) w') :
    if Region.wanted o (yielded ops a.tmps) = true then Oper.wp Try.prog o a W K Q else F := by
  have hw : Region.wanted o (yielded ops a.tmps) = true := by simp [Region.wanted, hgd]
  rw [if_pos hw]
  obtain ⟨i0, z, hi, hz0, hz1, hz2, hz3⟩ := E.info
  have hsz := E.pos
  rcases Nat.eq_zero_or_pos m with hm | hm
  · subst hm
    have hl : l = [] := List.eq_nil_of_length_eq_zero (by simpa using hn)
    subst hl
    obtain ⟨A0, c0, rfl, _⟩ := own_free hO
    have hrun := run_append_zeroG (w := W) (ty := o.type) (A := A) (c := c) E.under hi hO
    unfold Oper.wp execOp
    simp only [ho, resolve, invoke, builtin, Sem.run_bind, Sem.run_pure, Result.andThen_ok, List.map_toArray, List.map_cons, List.map_nil, hs, hx, hrun]
    exact hK A0 c0 W (by simpa using hO) ⟨rfl, rfl, rfl, Nat.le_refl _, fun _ _ _ => rfl⟩ (.inl (by cases A0 <;> rfl))
  · have hl : 0 < l.length := by have := Nat.mul_pos hm hsz; omega
    obtain ⟨b', o', rfl, _, hc⟩ := hp (List.length_pos_iff.1 hl)
    refine wp_append_lies W s x ts ho b te i0 z size by_ E.under hi hz0 hz1 hz2 hz3 hsz v n k hs hO ⟨b', o', none⟩ m c l hx hn (fun j u hj => by rw [add_plain]; exact hc j u hj) h1 hm h63 hby hb W.heap.size rfl (fun g cap w' h1 h2 h3 _ => hK _ cap w' h1 h2 ?_)
    rcases h3 with e | e
    · exact .inl (by rw [e]; rfl)
    · exact .inr ⟨g, rfl, by omega⟩
set_option maxRecDepth 4000 in
theorem step_append_G0 {ts te : TypeId} {size by_ : Nat} (E : ElemG ts te size by_) (W : World) {ops : Array Oper} {o : Oper} {a : Act} {K : Act → World → Prop} {Q : Exit → Act → World → Prop} {F : Prop} (hgd : o.guard = none) (s x : Operand)
    (ho : o.op = .call { callee := .builtin .append, args := #[s, x], argTypes := #[ts, ts] })
    (b : Nat) (hs : a.eval s = .slice none 0 0) (A : Option Addr) (m c B : Nat) (l : List Value) (hx : a.eval x = .slice A m c) (hn : l.length = m * size) (hp : VL W B A l) (h1 : ∀ u ∈ l, u.oneCell' = true)
    (h63 : m ≤ maxLen) (hby : m * by_ ≤ 140737488355328) (hb : b ≤ W.heap.size)
    (hK : ∀ A' c' w', w'.ownsRow b te size (.slice A' m c') m l → Below W.heap.size W w' → ((Value.slice A' m c').ownBlock = none ∨ ∃ g, (Value.slice A' m c').ownBlock = some g ∧ W.heap.size ≤ g) → K (a.put o.dst (.slice A' m c')) w') :
    if Region.wanted o (yielded ops a.tmps) = true then Oper.wp Try.prog o a W K Q else F := by
  refine step_append_GX E W hgd s x ho b (.slice none 0 0) 0 [] hs (World.ownsRow_nil _ _ _ _) A m c B l hx hn hp h1 (by rw [Nat.zero_add]; exact h63) (by rw [Nat.zero_add]; exact hby) hb (fun A' c' w' h1 h2 h3 => ?_)
  rw [Nat.zero_add, List.nil_append] at h1
  rw [Nat.zero_add] at h3 ⊢
  exact hK A' c' w' h1 (grown_none h2) h3

end Go.Proofs.Ytmglnjmnabjjgaa

namespace Go.Proofs.Ytmglnjmnabjjgaa
def getR (id : Int) : List RefP → RefP × Int
  | [] => (zeroR, 14)
  | r :: l => if r.id = id then (r, 0) else getR id l
def freeR (id : Int) : List RefP → List RefP × Int
  | [] => ([], 14)
  | r :: l => if r.id = id then (l, 0) else if (freeR id l).2 = 0 then (r :: (freeR id l).1, 0) else ([], 14)
/-- Where the first ref with a number stands. -/
def firstR (id : Int) (l : List RefP) (k : Nat) : Prop := (∃ r, l[k]? = some r ∧ r.id = id) ∧ ∀ j s, j < k → l[j]? = some s → s.id ≠ id
set_option maxRecDepth 4000 in
theorem getR_at : ∀ {l : List RefP} {id : Int} {k : Nat} {r : RefP}, firstR id l k → l[k]? = some r → getR id l = (r, 0)
  | [], _, _, _, _, h => by simp at h
  | x :: l, id, 0, r, h, h2 => by
    simp only [List.getElem?_cons_zero, Option.some.injEq] at h2
    subst h2
    obtain ⟨⟨s, h3, h4⟩, _⟩ := h
    simp only [List.getElem?_cons_zero, Option.some.injEq] at h3
    subst h3
    rw [getR, if_pos h4]
  | x :: l, id, k + 1, r, h, h2 => by
    rw [getR, if_neg (h.2 0 x (by omega) rfl)]
    exact getR_at ⟨by simpa using h.1, fun j s hj hs => h.2 (j + 1) s (by omega) (by simpa using hs)⟩ (by simpa using h2)
set_option maxRecDepth 4000 in
theorem getR_no : ∀ {l : List RefP} {id : Int}, (∀ (j : Nat) (s : RefP), l[j]? = some s → s.id ≠ id) → getR id l = (zeroR, 14)
  | [], _, _ => rfl
  | x :: l, id, h => by
    rw [getR, if_neg (h 0 x rfl)]
    exact getR_no fun j s hs => h (j + 1) s (by simpa using hs)
set_option maxRecDepth 4000 in
theorem freeR_at : ∀ {l : List RefP} {id : Int} {k : Nat}, firstR id l k → freeR id l = (l.take k ++ l.drop (k + 1), 0)
  | [], _, _, h => by obtain ⟨⟨r, h, _⟩, _⟩ := h; simp at h
  | x :: l, id, 0, h => by
    obtain ⟨⟨s, h3, h4⟩, _⟩ := h
    simp only [List.getElem?_cons_zero, Option.some.injEq] at h3
    subst h3
    rw [freeR, if_pos h4]
    rfl
  | x :: l, id, k + 1, h => by
    have e := freeR_at (l := l) (id := id) (k := k) ⟨by simpa using h.1, fun j s hj hs => h.2 (j + 1) s (by omega) (by simpa using hs)⟩
    rw [freeR, if_neg (h.2 0 x (by omega) rfl), e, if_pos rfl]
    rfl
set_option maxRecDepth 4000 in
theorem freeR_no : ∀ {l : List RefP} {id : Int}, (∀ (j : Nat) (s : RefP), l[j]? = some s → s.id ≠ id) → freeR id l = ([], 14)
  | [], _, _ => rfl
  | x :: l, id, h => by
    have e := freeR_no (l := l) (id := id) fun j s hs => h (j + 1) s (by simpa using hs)
    rw [freeR, if_neg (h 0 x rfl), e, if_neg (by decide)]
end Go.Proofs.Ytmglnjmnabjjgaa

namespace Go.Proofs.Ytmglnjmnabjjgaa
open Go.RowKit
set_option maxRecDepth 4000 in
theorem cellsR_take (cs : List RC) (k : Nat) : (cellsR cs).take (k * 11) = cellsR (cs.take k) := by
  induction cs generalizing k with
  | nil => simp [cellsR]
  | cons c r ih =>
    cases k with
    | zero => simp [cellsR]
    | succ k =>
      rw [cellsR, List.flatMap_cons, List.take_succ_cons, cellsR, List.flatMap_cons, ← cellsR, ← cellsR, ← ih k, List.take_append]
      have e : c.row.toList.length = 11 := rfl
      rw [List.take_of_length_le (by omega), e, show (k + 1) * 11 - 11 = k * 11 by omega]
set_option maxRecDepth 4000 in
theorem cellsR_drop (cs : List RC) (k : Nat) : (cellsR cs).drop (k * 11) = cellsR (cs.drop k) := by
  induction cs generalizing k with
  | nil => simp [cellsR]
  | cons c r ih =>
    cases k with
    | zero => simp
    | succ k =>
      rw [cellsR, List.flatMap_cons, List.drop_succ_cons, ← cellsR, ← ih k, List.drop_append]
      have e : c.row.toList.length = 11 := rfl
      rw [List.drop_of_length_le (by omega), e, show (k + 1) * 11 - 11 = k * 11 by omega, List.nil_append]

/-- What is told: a ref and an error's number; a list of refs and an error's number. -/
def NewRE (w : World) (r : RefP × Int) (e : Ending) (w' : World) : Prop := ∃ c : RC, e = .returned (.tuple #[.agg c.row, .int .i64 r.2]) ∧ RkA w' c r.1 ∧ Below w.heap.size w w'
end Go.Proofs.Ytmglnjmnabjjgaa

namespace Go.Proofs.Ytmglnjmnabjjgaa
open Go.RowKit

theorem firstR_step {us : List RefP} {id : Int} {k : Nat} {a : RefP} (h : ∀ (j : Nat) (s : RefP), j < k → us[j]? = some s → s.id ≠ id) (ha : us[k]? = some a) (hne : a.id ≠ id) : ∀ (j : Nat) (s : RefP), j < k + 1 → us[j]? = some s → s.id ≠ id := fun j s hj hs => by
  rcases Nat.lt_or_ge j k with h1 | h1
  · exact h j s h1 hs
  · obtain rfl : j = k := by omega
    rw [ha] at hs
    injection hs with hs
    subst hs
    exact hne
set_option maxRecDepth 4000 in
theorem result_ref2 {fn : Func} {p u : Tmp} (h : fn.results = #[.cell p 34, .tmp u]) (tmps : Array Value) (w : World) {g : Nat} {c : RC} (hv : VarR 34 w g c.row) (hp : tmps.getD p undef = .pointer (some ⟨g, 0, none⟩)) : (results fn tmps).run Try.prog w = .ok (.tuple #[.agg c.row, tmps.getD u undef]) w := by
  obtain ⟨d, h3, h4, h5⟩ := rowT_ref
  rw [results_cell_tmp h, hp]
  simp only [asAddr, Sem.run_pure, Result.andThen_ok, run_loadVar_row w g _ _ _ _ d hv h3 (by cases d <;> simp_all) h5]
set_option maxRecDepth 100000 in
set_option maxHeartbeats 8000000 in
theorem rget_r {w : World} {A : Option Addr} {cs : List RC} {us : List RefP} {n cap : Nat} {id : Int} (h : LR w A cs us) (hn : us.length = n) (h63 : n ≤ 9223372036854775807) : Calls Try.prog 15 #[.slice A n cap, .int .i64 id] w (NewRE w (getR id us)) := by
  have HL := hd h
  have HN := hd hn
  clear h hn
  go_enter Try.func15, Try.ntmps15
  go_upto_region 1 with fail
  have HV4 := hd (VarR.new w 34 RC.zero.row)
  have HB := hd (show Below w.heap.size w (w.alloc (.cells RC.zero.row 34)) from (ref_var w RC.zero).2)
  obtain ⟨W0, hW⟩ : ∃ W0, w.alloc (.cells RC.zero.row 34) = W0 := ⟨_, rfl⟩
  unfold RC.row RC.zero at hW HV4 HB
  rw [hW] at HV4 HB ⊢
  clear hW
  have HB0 := HB
  clear HB
  go_wp2_with fail
  go_loopw [10] (fun i wr => ∃ k : Nat, k ≤ n ∧ i = .int .i64 k ∧ Hid (∀ (j : Nat) (a : RefP), j < k → us[j]? = some a → a.id ≠ id) ∧ Hid (Below W0.heap.size W0 wr)) (fun i _ => n - (intOf i).toNat)
  case atStart => exact ⟨0, Nat.zero_le _, rfl, hd (fun j a hj => absurd hj (Nat.not_lt_zero _)), hd (Below.refl _ _)⟩
  case round =>
    obtain ⟨k, hk1, rfl, HA, HBr⟩ := hrel
    have HB := hd (HB0.out.trans (HBr.out.mono HB0.out.size))
    have HV4 := hd (HV4.out.keep HBr.out)
    by_cases hlt : k < n
    · obtain ⟨b, o, c, a, rfl, hb, hc, ha, hok, hrg⟩ := (HL.out.later HB.out).at_ (k := k) (by rw [HN.out]; exact hlt)
      have HR := hd hrg
      have HAk := hd ha
      have HO := hd (HL.out.ha k c a hc ha)
      have HI := hd hok.hid
      clear hb hc ha hok hrg
      by_cases hi : a.id = id
      · have HE := hd (getR_at ⟨⟨a, HAk.out, hi⟩, HA.out⟩ HAk.out)
        have e1 : (c.id == id) = true := by rw [← HI.out]; simpa using hi
        clear hi HA
        go_wp2_with (first
          | ((with_reducible refine gd_load (ty := 34) (x := .tmp 12) ?_); refine wpList_load_ref HR.out _ rfl rfl rfl ?_)
          | ((with_reducible refine gd_store (ty := 34) (x := .tmp 7) ?_); refine wpList_store_ref (c := c) _ _ rfl rfl rfl rfl rfl rfl rfl ?_; have hv9 := (ref_var wr c).1; have hb9 := (ref_var wr c).2; have HV4 := hd (HV4.out.keep hb9); have HB := hd (step_b HB.out hb9); have HV7 := hd hv9; obtain ⟨⟨u0, _⟩, _⟩ := hv9.eleven; clear hv9 hb9)
          | ((with_reducible refine gd_load (ty := 34) (x := .tmp 7) ?_); refine wpList_load_row rowT_ref HV7.out rfl _ rfl rfl rfl ?_)
          | ((with_reducible refine gd_store (ty := 34) (x := .tmp 4) ?_); refine wpList_store_row2 rowT_ref (r := c.row) HV4.out rfl rfl c.one _ _ rfl rfl rfl rfl rfl ?_; intro W9 hv9 ho9; have HB := hd (off_step HB.out ho9 (Nat.le_refl _)); have HV4 := hd hv9; clear hv9 ho9))
        refine bodyPost_ret (result_ref2 Try.results15 _ _ HV4.out rfl) rfl ⟨c, by rw [HE.out]; rfl, ?_, HB.out⟩
        rw [HE.out]
        exact HO.out.later HB.out
      · have HA2 := hd (firstR_step HA.out HAk.out hi)
        have e1 : (c.id == id) = false := by rw [← HI.out]; simpa using hi
        clear hi HA
        go_wp2_with (first
          | ((with_reducible refine gd_load (ty := 34) (x := .tmp 12) ?_); refine wpList_load_ref HR.out _ rfl rfl rfl ?_)
          | ((with_reducible refine gd_store (ty := 34) (x := .tmp 7) ?_); refine wpList_store_ref (c := c) _ _ rfl rfl rfl rfl rfl rfl rfl ?_; have hv9 := (ref_var wr c).1; have hb9 := (ref_var wr c).2; have HV4 := hd (HV4.out.keep hb9); have HB := hd (step_b HB.out hb9); have HV7 := hd hv9; obtain ⟨⟨u0, _⟩, _⟩ := hv9.eleven; clear hv9 hb9)
          | ((with_reducible refine gd_load (ty := 34) (x := .tmp 7) ?_); refine wpList_load_row rowT_ref HV7.out rfl _ rfl rfl rfl ?_)
          | ((with_reducible refine gd_store (ty := 34) (x := .tmp 4) ?_); refine wpList_store_row2 rowT_ref (r := c.row) HV4.out rfl rfl c.one _ _ rfl rfl rfl rfl rfl ?_; intro W9 hv9 ho9; have HB := hd (off_step HB.out ho9 (Nat.le_refl _)); have HV4 := hd hv9; clear hv9 ho9))
        go_roundw
        case rel => exact ⟨k + 1, by omega, by go_num, HA2, hd (HBr.out.alloc HBr.out.size _)⟩
        case measure => simp [intOf]; omega
    · obtain rfl : k = n := by omega
      have HE := hd (getR_no (l := us) (id := id) (fun j s hs => HA.out j s (by rw [← HN.out]; exact (List.getElem?_eq_some_iff.1 hs).1) hs))
      clear HA hk1 hlt
      go_wp2_with (first
        | ((with_reducible refine gd_store (ty := 34) (x := .tmp 4) ?_); refine wpList_store_row2 rowT_ref (r := RC.zero.row) HV4.out rfl rfl RC.zero.one _ _ rfl rfl rfl rfl rfl ?_; intro W9 hv9 ho9; have HB := hd (off_step HB.out ho9 (Nat.le_refl _)); have HV4 := hd hv9; clear hv9 ho9))
      refine bodyPost_ret (result_ref2 Try.results15 _ _ HV4.out rfl) rfl ⟨RC.zero, by rw [HE.out]; rfl, ?_, HB.out⟩
      rw [HE.out]
      exact RkA.zero _

end Go.Proofs.Ytmglnjmnabjjgaa

namespace Go.Proofs.Ytmglnjmnabjjgaa
open Go.RowKit
set_option maxRecDepth 4000 in
theorem RkL.take {w : World} {cs : List RC} {us : List RefP} (h : RkL w cs us) (k : Nat) : RkL w (cs.take k) (us.take k) := ⟨by simp [h.1], fun j c a h1 h2 => by
  rw [List.getElem?_take] at h1 h2
  split at h1
  · rename_i hj
    rw [if_pos hj] at h2
    exact h.2 j c a h1 h2
  · cases h1⟩
set_option maxRecDepth 4000 in
theorem RkL.drop {w : World} {cs : List RC} {us : List RefP} (h : RkL w cs us) (k : Nat) : RkL w (cs.drop k) (us.drop k) := ⟨by simp [h.1], fun j c a h1 h2 => by
  rw [List.getElem?_drop] at h1 h2
  exact h.2 _ c a h1 h2⟩
set_option maxRecDepth 4000 in
/-- A slice's beginning, and its rest. -/
theorem takeR_run (A : Option Addr) (n c k : Nat) (hk : k ≤ c) : ∀ W : World, (Instr.slice 27 (.slice A n c) none (some (.int .i64 (k : Int))) none).run Try.prog W = .ok (.slice A k c) W := fun W => by
  have he : Try.prog.elem 27 = 34 := by kernel_rfl
  have hs : ∀ W, (sizeOf 34).run Try.prog W = .ok 11 W := fun _ => by kernel_rfl
  rw [run_slice_h W 27 A n c (by rw [he]; exact Try.underlying27) .i64 _ (by omega) (by omega), he, hs]
  have e : (A.map fun x => x.add 0) = A := by
    cases A
    · rfl
    · simp [Addr.add]
  simp [Result.andThen, sliced, e]
set_option maxRecDepth 4000 in
theorem cutR_run (A : Option Addr) (n c k : Nat) (hk : k ≤ n) (hc : n ≤ c) : ∃ D : Option Addr, (∀ (w : World) (B : Nat) (cs : List RC), VL w B A (cellsR cs) → cs.length = n → VL w B D (cellsR (cs.drop k))) ∧
    (∀ W : World, (Instr.slice 27 (.slice A n c) (some (.int .i64 (k : Int))) none none).run Try.prog W = .ok (.slice D (n - k) (c - k)) W) := by
  refine ⟨if c = k then A else A.map (·.add (k * 11)), fun w B cs h hx => ?_, fun W => ?_⟩
  · have h2 := h.drop (k * 11) (c * 11) (n * 11) (by rw [cellsR_len, hx]) (by omega)
    rw [cellsR_drop, Nat.mul_one] at h2
    by_cases e : c = k
    · rw [if_pos e]
      rw [if_pos (by rw [e])] at h2
      exact h2
    · rw [if_neg e]
      rw [if_neg (by omega)] at h2
      exact h2
  · have he : Try.prog.elem 27 = 34 := by kernel_rfl
    have hs : ∀ W, (sizeOf 34).run Try.prog W = .ok 11 W := fun _ => by kernel_rfl
    rw [run_slice_l W 27 A n c (by rw [he]; exact Try.underlying27) .i64 _ (by omega) (by omega), he, hs]
    simp [Result.andThen, sliced]

set_option maxRecDepth 4000 in
theorem lwrap (x : Int) (h1 : 0 ≤ x) (h2 : x < 9223372036854775808) : IntKind.i64.wrap x = x := by simp [IntKind.wrap, IntKind.bits, IntKind.signed]; omega
set_option maxRecDepth 4000 in
theorem under_refs : Try.prog.underlying 27 = some (.slice (Try.prog.elem 27)) := by
  have he : Try.prog.elem 27 = 34 := by kernel_rfl
  rw [he]
  exact Try.underlying27
set_option maxRecDepth 4000 in
theorem exec_slice_h {ev : Operand → Value} {o : Oper} {x y : Operand} {v u r : Value} (h : ∀ W : World, (Instr.slice 27 v none (some u) none).run Try.prog W = .ok r W) (ho : o.op = .slice 27 x none (some y) none) (hx : ev x = v) (hy : ev y = u) (W : World) : (execOp ev o).run Try.prog W = .ok (.value r) W := by
  unfold execOp
  simp only [ho, Option.map_none, Option.map_some, hx, hy, Sem.run_bind, run_sliceAt_slice (h := under_refs), h W, Result.andThen_ok, Sem.run_pure]
set_option maxRecDepth 4000 in
theorem exec_slice_l {ev : Operand → Value} {o : Oper} {x y : Operand} {v u r : Value} (h : ∀ W : World, (Instr.slice 27 v (some u) none none).run Try.prog W = .ok r W) (ho : o.op = .slice 27 x (some y) none none) (hx : ev x = v) (hy : ev y = u) (W : World) : (execOp ev o).run Try.prog W = .ok (.value r) W := by
  unfold execOp
  simp only [ho, Option.map_none, Option.map_some, hx, hy, Sem.run_bind, run_sliceAt_slice (h := under_refs), h W, Result.andThen_ok, Sem.run_pure]
set_option maxRecDepth 100000 in
set_option maxHeartbeats 8000000 in
theorem rfree_r {w : World} {A : Option Addr} {cs : List RC} {us : List RefP} {n cap : Nat} {id : Int} (h : LR w A cs us) (hn : us.length = n) (h63 : n ≤ 300) (hcap : n ≤ cap) : Calls Try.prog 17 #[.slice A n cap, .int .i64 id] w (NewLE w (freeR id us)) := by
  have HL := hd h
  have HN := hd hn
  clear h hn
  go_enter Try.func17, Try.ntmps17
  go_wp2_with fail
  go_loopw [10] (fun i wr => ∃ k : Nat, k ≤ n ∧ i = .int .i64 k ∧ Hid (∀ (j : Nat) (a : RefP), j < k → us[j]? = some a → a.id ≠ id) ∧ Hid (Below w.heap.size w wr)) (fun i _ => n - (intOf i).toNat)
  case atStart => exact ⟨0, Nat.zero_le _, rfl, hd (fun j a hj => absurd hj (Nat.not_lt_zero _)), hd (Below.refl _ _)⟩
  case round =>
    obtain ⟨k, hk1, rfl, HA, HB⟩ := hrel
    by_cases hlt : k < n
    · obtain ⟨b, o, c, a, rfl, hb, hc, ha, hok, hrg⟩ := (HL.out.later HB.out).at_ (k := k) (by rw [HN.out]; exact hlt)
      have HR := hd hrg
      have HAk := hd ha
      have HI := hd hok.hid
      clear hb hc ha hok hrg
      by_cases hi : a.id = id
      · have HE := hd (freeR_at ⟨⟨a, HAk.out, hi⟩, HA.out⟩)
        have e1 : (c.id == id) = true := by rw [← HI.out]; simpa using hi
        clear hi HA
        go_upto_region 5 with (first
          | ((with_reducible refine gd_load (ty := 34) (x := .tmp 13) ?_); refine wpList_load_ref HR.out _ rfl rfl rfl ?_)
          | ((with_reducible refine gd_store (ty := 34) (x := .tmp 7) ?_); refine wpList_store_ref (c := c) _ _ rfl rfl rfl rfl rfl rfl rfl ?_; have hv9 := (ref_var wr c).1; have HB := hd (step_b HB.out (ref_var wr c).2); obtain ⟨⟨u0, _⟩, _⟩ := hv9.eleven; clear hv9))
        clear u0
        obtain ⟨X, hX⟩ : ∃ X, wr.alloc (.cells c.row 34) = X := ⟨_, rfl⟩
        rw [hX] at HB ⊢
        clear hX
        obtain ⟨D, hD1, hD2⟩ := cutR_run (some ⟨b, o, none⟩) n cap (k + 1) hlt hcap
        have hT := takeR_run (some ⟨b, o, none⟩) n cap k (by omega)
        have HD1 := hd hD1
        have HD2 := hd hD2
        have HT := hd hT
        clear hD1 hD2 hT
        refine Y_start (S := fun W' => Below w.heap.size w W') (z := fun _ => false) (by kernel_rfl) ?_
        have HSS := hd (show Below w.heap.size w X.drew from HB.out.drew)
        refine Y_take (i := 0) (n := 10) (.slice (some ⟨b, o, none⟩) n cap) rfl (by kernel_rfl) (by kernel_rfl) (by kernel_rfl) (by kernel_rfl) (fun _ _ _ h => h) (by rfl) (fun W9 hW9 => ?_) HSS.out ?_
        · go_simp
        simp only [Act.put, List.setIfInBounds_toArray, List.set_cons_succ, List.set_cons_zero, List.getElem_toArray, List.getElem_cons_zero]
        refine Y_take (i := 1) (n := 9) (.int .i64 (k : Int)) rfl (by kernel_rfl) (by kernel_rfl) (by kernel_rfl) (by kernel_rfl) (fun _ _ _ h => h) (by rfl) (fun W9 hW9 => ?_) HSS.out ?_
        · go_simp
        simp only [Act.put, List.setIfInBounds_toArray, List.set_cons_succ, List.set_cons_zero, List.getElem_toArray, List.getElem_cons_succ, List.getElem_cons_zero]
        refine Y_take (i := 2) (n := 8) (.slice (some ⟨b, o, none⟩) k cap) rfl (by kernel_rfl) (by kernel_rfl) (by kernel_rfl) (by kernel_rfl) (fun _ _ _ h => h) (by rfl) (fun W9 hW9 => ?_) HSS.out ?_
        · exact exec_slice_h HT.out rfl rfl rfl W9
        simp only [Act.put, List.setIfInBounds_toArray, List.set_cons_succ, List.set_cons_zero, List.getElem_toArray, List.getElem_cons_succ, List.getElem_cons_zero]
        refine Y_take (i := 4) (n := 7) (.slice (some ⟨b, o, none⟩) n cap) rfl (by kernel_rfl) (by kernel_rfl) (by kernel_rfl) (by kernel_rfl) (fun _ _ _ h => h) (by rfl) (fun W9 hW9 => ?_) HSS.out ?_
        · go_simp
        simp only [Act.put, List.setIfInBounds_toArray, List.set_cons_succ, List.set_cons_zero, List.getElem_toArray, List.getElem_cons_succ, List.getElem_cons_zero]
        refine Y_take (i := 5) (n := 6) (.int .i64 (k : Int)) rfl (by kernel_rfl) (by kernel_rfl) (by kernel_rfl) (by kernel_rfl) (fun _ _ _ h => h) (by rfl) (fun W9 hW9 => ?_) HSS.out ?_
        · go_simp
        simp only [Act.put, List.setIfInBounds_toArray, List.set_cons_succ, List.set_cons_zero, List.getElem_toArray, List.getElem_cons_succ, List.getElem_cons_zero]
        refine Y_take (i := 6) (n := 5) (.int .i64 ((k + 1 : Nat) : Int)) rfl (by kernel_rfl) (by kernel_rfl) (by kernel_rfl) (by kernel_rfl) (fun _ _ _ h => h) (by rfl) (fun W9 hW9 => ?_) HSS.out ?_
        · go_simp
          exact lwrap _ (by omega) (by omega)
        simp only [Act.put, List.setIfInBounds_toArray, List.set_cons_succ, List.set_cons_zero, List.getElem_toArray, List.getElem_cons_succ, List.getElem_cons_zero]
        refine Y_take (i := 7) (n := 4) (.slice D (n - (k + 1)) (cap - (k + 1))) rfl (by kernel_rfl) (by kernel_rfl) (by kernel_rfl) (by kernel_rfl) (fun _ _ _ h => h) (by rfl) (fun W9 hW9 => ?_) HSS.out ?_
        · exact exec_slice_l HD2.out rfl rfl rfl W9
        simp only [Act.put, List.setIfInBounds_toArray, List.set_cons_succ, List.set_cons_zero, List.getElem_toArray, List.getElem_cons_succ, List.getElem_cons_zero]
        refine Y_one (i := 3) (n := 3) (by kernel_rfl) rfl (fun K hK => ?_)
        refine step_append_G0 refG _ rfl _ _ rfl w.heap.size rfl (some ⟨b, o, none⟩) k cap _ (cellsR (cs.take k)) rfl (by rw [cellsR_len, List.length_take, HL.out.hl, HN.out]; omega) (by rw [← cellsR_take]; exact (HL.out.later HSS.out).hv.take _) (cellsR_all _) (by unfold maxLen; omega) (by omega) HSS.out.size (fun A1 c1 w1 o1 b1 at1 => ?_)
        have HS1 := hd (step_b HSS.out b1)
        refine hK _ _ (fun _ => HS1.out) ?_
        clear hK K
        simp only [Act.put, List.setIfInBounds_toArray, List.set_cons_succ, List.set_cons_zero, List.getElem_toArray, List.getElem_cons_succ, List.getElem_cons_zero]
        refine Y_one (i := 8) (n := 2) (by kernel_rfl) rfl (fun K hK => ?_)
        refine step_append_GX refG _ rfl _ _ rfl w.heap.size _ k (cellsR (cs.take k)) rfl o1 D (n - (k + 1)) (cap - (k + 1)) _ (cellsR (cs.drop (k + 1))) rfl (by rw [cellsR_len, List.length_drop, HL.out.hl, HN.out]) (HD1.out _ _ _ (HL.out.later HS1.out).hv (by rw [HL.out.hl, HN.out])) (cellsR_all _) (by unfold maxLen; omega) (by omega) HS1.out.size (fun A2 c2 w2 o2 g2 at2 => ?_)
        have HS2 := hd (grown_below HS1.out g2 (fun j hj => (o1.lt j hj).1))
        have HV := hd (lrow_vl o2)
        refine hK _ _ (fun _ => HS2.out) ?_
        clear hK K o1 b1 at1 o2 g2 at2
        simp only [Act.put, List.setIfInBounds_toArray, List.set_cons_succ, List.set_cons_zero, List.getElem_toArray, List.getElem_cons_succ, List.getElem_cons_zero]
        refine Y_one (i := 9) (n := 1) (by kernel_rfl) rfl (fun K hK => ?_)
        rw [if_pos (by rfl)]
        go_simp
        refine hK _ _ (fun _ => HS2.out) ?_
        clear hK K
        refine Y_one (i := 10) (n := 0) (by kernel_rfl) rfl (fun K hK => ?_)
        rw [if_pos (by rfl)]
        go_simp
        refine hK _ _ (fun _ => HS2.out) (Y_done (by kernel_rfl) ?_)
        clear hK K
        go_wp2_with fail
        go_ret2
        refine ⟨A2, k + (n - (k + 1)), c2, cs.take k ++ cs.drop (k + 1), by rw [HE.out]; rfl, by rw [HE.out]; simp only [List.length_append, List.length_take, List.length_drop, HN.out]; omega, HV.out.1, ?_, HS2.out⟩
        rw [HE.out]
        have hr := HL.out.rk.later HS2.out
        exact ((hr.take k).app (hr.drop (k + 1))).lr (by rw [cellsR_app]; exact HV.out.2)
      · have HA2 := hd (firstR_step HA.out HAk.out hi)
        have e1 : (c.id == id) = false := by rw [← HI.out]; simpa using hi
        clear hi HA
        go_wp2_with (first
          | ((with_reducible refine gd_load (ty := 34) (x := .tmp 13) ?_); refine wpList_load_ref HR.out _ rfl rfl rfl ?_)
          | ((with_reducible refine gd_store (ty := 34) (x := .tmp 7) ?_); refine wpList_store_ref (c := c) _ _ rfl rfl rfl rfl rfl rfl rfl ?_; have hv9 := (ref_var wr c).1; have HB := hd (step_b HB.out (ref_var wr c).2); obtain ⟨⟨u0, _⟩, _⟩ := hv9.eleven; clear hv9))
        go_roundw
        case rel => exact ⟨k + 1, by omega, by go_num, HA2, HB⟩
        case measure => simp [intOf]; omega
    · obtain rfl : k = n := by omega
      have HE := hd (freeR_no (l := us) (id := id) (fun j s hs => HA.out j s (by rw [← HN.out]; exact (List.getElem?_eq_some_iff.1 hs).1) hs))
      clear HA hk1 hlt
      go_wp2_with fail
      go_ret2
      refine ⟨none, 0, 0, [], by rw [HE.out]; rfl, by rw [HE.out]; rfl, Nat.le_refl _, ?_, HB.out⟩
      rw [HE.out]
      exact LR.nil _ _

end Go.Proofs.Ytmglnjmnabjjgaa

namespace Go.Proofs.Ytmglnjmnabjjgaa
open Go.RowKit
open Go.WideShapes (add_plain)
set_option maxRecDepth 4000 in
theorem OffF.mono {F G : Nat → Prop} {w w' : World} (h : OffF F w w') (hF : ∀ k, F k → G k) : OffF G w w' := ⟨h.os, h.tape, h.output, h.size, fun k hk hn => h.block k hk (fun e => hn (hF k e))⟩
set_option maxRecDepth 4000 in
/-- One ref told. -/
theorem NewFr.one {w w' : World} {F : Nat → Prop} {r : RefP} {e : Ending} (h : NewFr w F [r] e w') : ∃ b o cap d, e = .returned (.slice (some ⟨b, o, none⟩) 1 cap) ∧ 1 ≤ cap ∧ w'.rangeAt b o d.row.toList ∧ (∀ W, OffF F w' W → RkA W d r) ∧ Below w.heap.size w w' := by
  obtain ⟨A, n, cap, ds, rfl, hn, hc, hf, _, hb⟩ := h
  simp only [List.length_cons, List.length_nil] at hn
  subst hn
  obtain ⟨g, rfl, hf2⟩ := hf (by omega)
  obtain ⟨b, o, c, a, e, _, h1, h2, _, h4⟩ := hf2.lr.at_ (k := 0) (by simp)
  simp only [List.getElem?_cons_zero, Option.some.injEq] at h2
  subst h2
  rw [Nat.zero_mul, Nat.add_zero] at h4
  exact ⟨b, o, cap, c, by rw [e], hc, h4, fun W ho => (hf2.held W (ho.mono fun k h => .inr h)).2 0 c _ h1 rfl, hb⟩

end Go.Proofs.Ytmglnjmnabjjgaa

namespace Go.Proofs.Ytmglnjmnabjjgaa
open Go.RowKit

/-- What find answers. -/
def Fnd (id : Int) (us : List RefP) (i : Int) : Prop := (i = -1 ∧ ∀ (j : Nat) (s : RefP), us[j]? = some s → s.id ≠ id) ∨ ∃ k : Nat, i = k ∧ k < us.length ∧ firstR id us k
def NewFnd (id : Int) (us : List RefP) (w : World) (e : Ending) (w' : World) : Prop := ∃ i, e = .returned (.int .i64 i) ∧ Fnd id us i ∧ Below w.heap.size w w'
set_option maxRecDepth 100000 in
set_option maxHeartbeats 2000000 in
theorem hfind1_any {w : World} {d : RC} {g : Nat} {id : Int} (hg : g < w.heap.size) (h : w.cell? ⟨g, 0, none⟩ = some (.int .i64 id)) : Calls Try.prog 52 #[.agg d.row, .pointer (some ⟨g, 0, none⟩)] w (Still (.bool (d.id == id)) w) := by
  obtain ⟨W0, hW⟩ : ∃ W0, w.alloc (.cells d.row 34) = W0 := ⟨_, rfl⟩
  have hv := (ref_var w d).1
  have hb := (ref_var w d).2
  rw [hW] at hv hb
  have c0 := (hb.cell (p := ⟨g, 0, none⟩) hg).trans h
  obtain ⟨⟨u0, _⟩, _⟩ := hv.eleven
  have HW := hd hW
  have HB := hd hb
  clear hW hb hv h
  go_enter Try.func52, Try.ntmps52
  go_upto_region 1 with fail
  rw [HW.out]
  go_wp2
  go_ret
  exact ⟨rfl, HB.out⟩

set_option maxRecDepth 100000 in
set_option maxHeartbeats 4000000 in
theorem hindex_any {w : World} {A : Option Addr} {cs : List RC} {us : List RefP} {n cap g : Nat} {id : Int} (h : LR w A cs us) (hn : us.length = n) (hl : n ≤ 10000) (hg : g < w.heap.size) (h0 : w.cell? ⟨g, 0, none⟩ = some (.int .i64 id)) : Calls Try.prog 51 #[.slice A n cap, .func (.func 52) #[] #[.pointer (some ⟨g, 0, none⟩)]] w (NewFnd id us w) := by
  have HL := hd h
  have HN := hd hn
  have H0 := hd h0
  clear h hn h0
  go_enter Try.func51, Try.ntmps51
  go_wp2_with fail
  go_loopw [8] (fun i wr => ∃ k : Nat, k ≤ n ∧ i = .int .i64 k ∧ Hid (∀ (j : Nat) (a : RefP), j < k → us[j]? = some a → a.id ≠ id) ∧ Hid (Below w.heap.size w wr)) (fun i _ => n - (intOf i).toNat)
  case atStart => exact ⟨0, Nat.zero_le _, rfl, hd (fun j a hj => absurd hj (Nat.not_lt_zero _)), hd (Below.refl _ _)⟩
  case round =>
    obtain ⟨k, hk1, rfl, HA, HB⟩ := hrel
    by_cases hlt : k < n
    · obtain ⟨b, o, c, a, rfl, hb, hc, ha, hok, hrg⟩ := (HL.out.later HB.out).at_ (k := k) (by rw [HN.out]; exact hlt)
      have HR := hd hrg
      have HAk := hd ha
      have HI := hd hok.hid
      have HC := hd (hfind1_any (d := c) (id := id) (Nat.lt_of_lt_of_le hg HB.out.size) ((HB.out.cell (p := ⟨g, 0, none⟩) hg).trans H0.out))
      clear hb hc ha hok hrg
      by_cases hi : a.id = id
      · have HE := hd (show Fnd id us k from .inr ⟨k, rfl, by rw [HN.out]; exact hlt, ⟨a, HAk.out, hi⟩, HA.out⟩)
        have e1 : (c.id == id) = true := by rw [← HI.out]; simpa using hi
        rw [e1] at HC
        clear hi HA e1
        go_wp2_with (first
          | ((with_reducible refine gd_load (ty := 34) (x := .tmp 14) ?_); refine wpList_load_ref HR.out _ rfl rfl rfl ?_)
          | (go_at_call 52; refine HC.out.mono ?_; rintro e w1 ⟨rfl, b9⟩; have HB := hd (step_b HB.out b9); clear b9))
        go_ret
        exact ⟨_, rfl, HE.out, HB.out⟩
      · have HA2 := hd (firstR_step HA.out HAk.out hi)
        have e1 : (c.id == id) = false := by rw [← HI.out]; simpa using hi
        rw [e1] at HC
        clear hi HA e1
        go_wp2_with (first
          | ((with_reducible refine gd_load (ty := 34) (x := .tmp 14) ?_); refine wpList_load_ref HR.out _ rfl rfl rfl ?_)
          | (go_at_call 52; refine HC.out.mono ?_; rintro e w1 ⟨rfl, b9⟩; have HB := hd (step_b HB.out b9); clear b9))
        go_roundw
        case rel => exact ⟨k + 1, by omega, by go_num, HA2, HB⟩
        case measure => simp [intOf]; omega
    · obtain rfl : k = n := by omega
      have HE := hd (show Fnd id us (-1) from .inl ⟨rfl, fun j s hs => HA.out j s (by rw [← HN.out]; exact (List.getElem?_eq_some_iff.1 hs).1) hs⟩)
      clear HA hk1 hlt
      go_wp2_with fail
      go_ret
      exact ⟨_, rfl, HE.out, HB.out⟩

set_option maxRecDepth 100000 in
set_option maxHeartbeats 2000000 in
theorem hfnd_any {w : World} {A : Option Addr} {cs : List RC} {us : List RefP} {n cap : Nat} {id : Int} (h : LR w A cs us) (hn : us.length = n) (hl : n ≤ 10000) : Calls Try.prog 30 #[.slice A n cap, .int .i64 id] w (NewFnd id us w) := by
  have hb : Below w.heap.size w (w.alloc (.cells #[.int .i64 id] 3)) := (Below.refl _ _).alloc (Nat.le_refl _) _
  have HC := hd (hindex_any (cap := cap) (h.later hb) hn hl (g := w.heap.size) (id := id) (by simp) (by rw [World.cell?_alloc_at _ _ _ _ rfl]; rfl))
  have HB := hd hb
  clear h hn hb
  go_enter Try.func30, Try.ntmps30
  go_wp2_with (go_at_call 51; refine HC.out.mono ?_; rintro e w1 ⟨i, rfl, hi, b9⟩; have HI := hd hi; have HB := hd (step_b HB.out b9); clear hi b9)
  go_ret
  exact ⟨i, rfl, HI.out, HB.out⟩

end Go.Proofs.Ytmglnjmnabjjgaa

namespace Go.Proofs.Ytmglnjmnabjjgaa
open Go.RowKit
open Go.WideShapes (add_plain)

theorem midR_run (A : Option Addr) (n c k : Nat) (hk : k < n) (hc : n ≤ c) : ∃ D : Option Addr, (∀ (w : World) (cs : List RC) (us : List RefP) (a : RC) (r : RefP), LR w A cs us → cs.length = n → cs[k]? = some a → us[k]? = some r → LR w D [a] [r]) ∧
    (∀ W : World, (Instr.slice 27 (.slice A n c) (some (.int .i64 (k : Int))) (some (.int .i64 ((k : Int) + 1))) none).run Try.prog W = .ok (.slice D 1 (c - k)) W) := by
  refine ⟨A.map (·.add (k * 11)), fun w cs us a r h hx ha hr => (RkL.one (h.ha k a r ha hr)).lr (fun _ => ?_), fun W => ?_⟩
  · obtain ⟨b, o, e, hb, hv⟩ := h.hv (by intro e; have := cellsR_len cs; rw [e, hx] at this; simp at this; omega)
    subst e
    refine ⟨b, o + k * 11, by simp [add_plain], hb, fun j u hj => ?_⟩
    rw [cellsR_one] at hj
    rw [Nat.add_assoc]
    exact hv _ _ (cellsR_at ha j u hj)
  · have he : Try.prog.elem 27 = 34 := by kernel_rfl
    have hs : ∀ W, (sizeOf 34).run Try.prog W = .ok 11 W := fun _ => by kernel_rfl
    rw [run_slice_lh W 27 A n c (by rw [he]; exact Try.underlying27) .i64 .i64 _ _ (by omega) (by omega) (by omega), he, hs]
    have e : ((k : Int) + 1).toNat = k + 1 := by omega
    have e2 : ¬ (c - k = 0) := by omega
    simp [Result.andThen, sliced, e]
    omega

set_option maxRecDepth 100000 in
set_option maxHeartbeats 4000000 in
theorem hget_r {w : World} {A : Option Addr} {cs : List RC} {us : List RefP} {n cap : Nat} {id : Int} (h : LR w A cs us) (hn : us.length = n) (h63 : n ≤ 300) (hcap : n ≤ cap) (tu : ∀ r ∈ us, fewR r = true) : Calls Try.prog 14 #[.slice A n cap, .int .i64 id] w (NewRE w (getR id us)) := by
  have HL := hd h
  have HN := hd hn
  have HTU := hd tu
  clear h hn tu
  go_enter Try.func14, Try.ntmps14
  go_upto_region 1 with fail
  have HV4 := hd (VarR.new w 34 RC.zero.row)
  have HB := hd (show Below w.heap.size w (w.alloc (.cells RC.zero.row 34)) from (ref_var w RC.zero).2)
  have hge : w.heap.size ≤ w.heap.size := Nat.le_refl _
  obtain ⟨W0, hW⟩ : ∃ W0, w.alloc (.cells RC.zero.row 34) = W0 := ⟨_, rfl⟩
  unfold RC.row RC.zero at hW HV4 HB
  rw [hW] at HV4 HB ⊢
  clear hW
  go_upto_region 2 with (go_at_call 30; refine (hfnd_any (HL.out.later HB.out) HN.out (by omega)).mono ?_; rintro e w1 ⟨i, rfl, hi, b9⟩; have HI := hd hi; have HV4 := hd (HV4.out.keep b9); have HB := hd (step_b HB.out b9); clear hi b9)
  rcases HI.out with ⟨rfl, hno⟩ | ⟨k, rfl, hk, hf⟩
  · have HE := hd (getR_no hno)
    clear hno HI
    go_wp2_with (first
      | ((with_reducible refine gd_store (ty := 34) (x := .tmp 4) ?_); refine wpList_store_row2 rowT_ref (r := RC.zero.row) HV4.out rfl rfl RC.zero.one _ _ rfl rfl rfl rfl rfl ?_; intro W9 hv9 ho9; have HB := hd (off_step HB.out ho9 (Nat.le_refl _)); have HV4 := hd hv9; clear hv9 ho9))
    refine bodyPost_ret (result_ref2 Try.results14 _ _ HV4.out rfl) rfl ⟨RC.zero, by rw [HE.out]; rfl, ?_, HB.out⟩
    rw [HE.out]
    exact RkA.zero _
  · rw [HN.out] at hk
    obtain ⟨b, o, c, r, eA, _, hc, hr, _, _⟩ := HL.out.at_ (k := k) (by rw [HN.out]; exact hk)
    have HE := hd (getR_at hf hr)
    obtain ⟨D, hD, hrun⟩ := midR_run A n cap k hk hcap
    have HD := hd (hD w1 cs us c r (HL.out.later HB.out) (by rw [HL.out.hl]; exact HN.out) hc hr)
    have HH := hd (show HeldR (fun x => x = w.heap.size) w1 [c] [r] from fun W ho => RkL.one ((HL.out.ha k c r hc hr).later (HB.out.trans (ho.below HB.out.size (fun x hx => by omega)))))
    have HF1 := hd (show ∀ x, x = w.heap.size → x < w1.heap.size from fun x hx => by rw [hx]; exact HV4.out.lt)
    have HTR := hd (show ∀ x ∈ [r], tinyR x from fun x hx => by
      simp at hx
      subst hx
      exact tiny_few (HTU.out _ (List.mem_of_getElem? hr)))
    clear hf hr hc HI hD eA
    have hs1 : (k : Int) + 1 ≤ cap := by omega
    go_wp2_with (first
      | (go_at_call 22; refine (hfresh_f HD.out HH.out HF1.out rfl (by simp) HTR.out).mono ?_; rintro e w2 hnf; obtain ⟨b2, o2, c2, d, rfl, hc2, hrg, hrk, b9⟩ := hnf.one; have HV4 := hd (HV4.out.keep b9); have HB := hd (step_b HB.out b9); have HK2 := hd hrk; have HR := hd hrg; clear b9 hnf hrk hrg)
      | ((with_reducible refine gd_load (ty := 34) (x := .tmp 19) ?_); refine wpList_load_ref HR.out _ rfl rfl rfl ?_)
      | ((with_reducible refine gd_store (ty := 34) (x := .tmp 4) ?_); refine wpList_store_row2 rowT_ref (r := d.row) HV4.out rfl rfl d.one _ _ rfl rfl rfl rfl rfl ?_; intro W9 hv9 ho9; have HB := hd (off_step HB.out ho9 (Nat.le_refl _)); have HV4 := hd hv9; clear hv9))
    refine bodyPost_ret (result_ref2 Try.results14 _ _ HV4.out rfl) rfl ⟨d, by rw [HE.out]; rfl, ?_, HB.out⟩
    rw [HE.out]
    exact HK2.out _ (OffF.of_off ho9 rfl)

end Go.Proofs.Ytmglnjmnabjjgaa
