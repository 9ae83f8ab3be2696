/- A schema that came in, within the reach: no more rules than a machine can hold. Type, and the document's; what is wrong with one node. A region that draws its order and holds calls that make memory, but leave all that was there: one walk in the order of the text, in whatever later world. A tree whose blocks meet a condition, none of its cells frozen; fresh lists of properties and of runes. A node that a call builds: its variable, its row of Kids, one kid more, and what it is in the end. The document's Copy: a tree of its own, its row its own. splice: a copy of a node with other Kids in the place of some. A row of nodes that a call makes out of the Kids of others. A point's own copy; a range's points in order, the program's and the document's. Operations in memory; calls on worlds that hold more; two lists one behind the other; what stands behind a place. A whole operation stored into its new variable. Operations in memory: where their parts lie, what their cells hold; loads and stores of whole ones. Fields stored into a variable of an operation. Variables that hold a node, a selection, or an operation: their rows of cells, loaded and stored whole. Schemas, rules, actions and pairs in variables: their rows of cells, loaded and stored whole, or in part. The first one of a row that a function takes: slices.IndexFunc, ContainsFunc, at rules, pairs, nodes. -/
import Derived.Test.YtegaapeaeffgoaaJPSpec
import Derived.Laws.EntriesVeiled
import Derived.Shelf.Abstract
import Derived.BigQuiet
import Derived.Laws.IdiomStrings
import Derived.Deep.AppendLies
import Derived.Deep.RegionHeld3
import Derived.Deep.DeepCutAuto
import Derived.Deep.CutBlock
import Derived.Deep.RegionLaw
import Derived.Laws.Strings
import Derived.Laws.AppendOwnNone
import Derived.IntWalk
import Derived.StillTailTactics
import Derived.ArgAppend
import Derived.Lib.SliceRun
import Derived.Lib.AppendZeros
import Derived.Deep.Cut
import Derived.BigRegion
import Derived.Deep.MidRow
import Derived.Laws.Tables
import Derived.Laws.ResultCell
import Derived.Maps.OwnOps
namespace Go.Proofs.Ytegaapeaeffgoaa
open Go.ChangeShapes Go.WideShapes Go.RowKit Go.Deep

theorem bytes_rule : Try.prog.bytesOf 27 = 112 := by kernel_rfl
set_option maxRecDepth 4000 in
theorem sch_types : (Try.prog.fieldsOf 30).toList.map (·.type) = [22, 27, 28, 3] := by kernel_rfl
section
variable {H : Type} {enc : TypeId × Value → H} {W : World} {base : Nat} {held : Bool}
set_option maxRecDepth 4000 in
theorem rules_weight {fuel : Nat} {A : Option Addr} {n c : Nat} {x : DataW H × List MemPlace} (h : DataW.trod enc Try.prog W base (fun _ => true) held fuel 22 [.slice A n c] = some x) (hw : ∀ n ∈ x.1.weights Try.prog 22, n ≤ reachBytes) : n * 112 ≤ 140737488351232 := by
  rcases DataW.trod_slice Try.underlying22 h with ⟨hcs, _⟩ | ⟨a, len, cap, elems, rest, m, _, hcs, rfl, _, hl, hm, hlen, hel, _, _⟩
  · simp only [List.cons.injEq, Value.slice.injEq, and_true] at hcs
    omega
  · simp only [List.cons.injEq, Value.slice.injEq, and_true] at hcs
    have hb := hw (elems.length * 112 + rest.length * 112) (by simp [DataW.weights, Try.underlying22, bytes_rule, Nat.add_mul])
    unfold reachBytes at hb
    omega
set_option maxRecDepth 4000 in
theorem open_schw {r : Reach} {b0 : Nat} {v : Value} {d : DataW H} {p : List MemPlace} (hv : Value.okWide Try.prog W r b0 30 v) (h : DataW.Trod enc Try.prog W base (fun _ => true) held 30 v d p) (hw : ∀ n ∈ d.weights Try.prog 30, n ≤ reachBytes) :
    ∃ (c : ScC) (s : SchT), v = .agg c.row ∧ ScAt W c s ∧ (∀ r ∈ allT s, FitR r) ∧ (s.rules.length + 1) * 112 ≤ 140737488355328 := by
  obtain ⟨c, s, rfl, hs⟩ := open_sch hv h
  refine ⟨c, s, rfl, hs, fun x hx => ?_, ?_⟩
  · rcases List.mem_append.1 hx with hx | hx
    · obtain ⟨cs, hcs⟩ := hs.rules
      obtain ⟨k, hk, rfl⟩ := List.mem_iff_getElem.1 hx
      exact (hcs.ha k _ _ (List.getElem?_eq_getElem (by rw [hcs.hl]; exact hk)) (List.getElem?_eq_getElem hk)).fit
    · simp at hx
      subst hx
      exact hs.els.fit
  · obtain ⟨fuel, hf⟩ := h
    obtain ⟨xs, f1, rfl, hx1, hcl, hxl, hfl⟩ := DataW.trod_struct afields_sch hf
    rw [asize_sch] at hxl
    obtain ⟨t0, e0, g0⟩ := Option.map_eq_some_iff.1 aff_sch_0
    simp only [Prod.mk.injEq] at g0
    have r0 := hfl 0 t0 e0
    rw [g0.1, g0.2, acells_rules] at r0
    simp only [Prod.mk.injEq] at hx1
    obtain ⟨rfl, _⟩ := hx1
    match xs, hxl with
    | [x0, x1, x2, x3], _ =>
      have hwp : ∀ n ∈ DataW.weightsEach Try.prog [22, 27, 28, 3] [x0.1, x1.1, x2.1, x3.1], n ≤ reachBytes := fun n hn => hw n (by
        simp only [DataW.weights, afields_sch, sch_types, List.map_cons, List.map_nil]; exact hn)
      simp only [List.getElem?_cons_zero] at r0
      have h1 := rules_weight (A := c.R) (n := c.nr) (c := c.cr) r0 (fun n hn => hwp n (DataW.weights_mem_each (j := 0) rfl rfl n hn))
      have h2 : s.rules.length = c.nr := hs.len
      omega
end

end Go.Proofs.Ytegaapeaeffgoaa

namespace Go.Proofs.Ytegaapeaeffgoaa
open Go.RowKit
set_option maxRecDepth 4000 in
set_option maxHeartbeats 1000000 in
theorem type_any (lf : Bool) (PA : Option Addr) (ps : List Pr) (pc : Nat) (t k : Value) (w : World) (hl : ps.length ≤ 9223372036854775807) (hp : PL w w.heap.size PA ps) :
    Calls Try.prog 32 #[.agg #[.bool lf, .slice PA ps.length pc, t, k]] w (Still (.string (typeT lf ps)) w) := by
  have hb1 : Below w.heap.size w (w.alloc (.cells #[.bool lf, .slice PA ps.length pc, t, k] 41)) := (Below.refl _ _).alloc (Nat.le_refl _) _
  have HC := hd (pget_any PA ps pc tyKey _ hl ((hp.below hb1).more hb1.size))
  clear hp
  cases lf
  · go_enter Try.func32, Try.ntmps32
    go_wp2_with (go_at_call 55; refine HC.out.mono ?_; rintro e w' ⟨rfl, hb⟩)
    go_ret
    exact ⟨rfl, hb1.trans (hb.mono hb1.size)⟩
  · go_enter Try.func32, Try.ntmps32
    go_wp2
    go_ret
    exact ⟨rfl, hb1⟩
end Go.Proofs.Ytegaapeaeffgoaa

namespace Go.Proofs.Ytegaapeaeffgoaa
open Go.RowKit

/-- The worlds that keep what lies below N as it is in w. -/
def Later (N : Nat) (w : World) : Type := { w' : World // Below N w w' }
instance (N : Nat) (w : World) : Nonempty (Later N w) := ⟨⟨w, Below.refl N w⟩⟩
set_option maxRecDepth 4000 in
theorem wp_region_later (N : Nat) {id : Nat} {Q : Exit → Act → World → Prop} {a : Act} {w : World} {l : List Oper} (hm : Try.prog.follows .mixedOrders = true) (hB : Region.lexB .any l.toArray = true)
    (h : wpQuiet Try.prog l.toArray (fun w' => ∃ u : Later N w, w' = u.1) (fun a' => ∀ w', (∃ u : Later N w, w' = u.1) → Q .normal a' w') l a) : (Code.region id l.toArray true).wp Try.prog Q a w :=
  wp_region_quiet (C := fun w' => ∃ u : Later N w, w' = u.1) hm hB ⟨⟨_, (Below.refl N w).drew⟩, rfl⟩ (by simpa using h)
set_option maxRecDepth 4000 in
theorem cell_in {w : World} {a : Addr} {v : Value} (h : w.cell? a = some v) : a.block < w.heap.size := by
  unfold World.cell? at h
  cases hb : w.heap[a.block]? with
  | none => rw [hb] at h; cases h
  | some o => exact (Array.getElem?_eq_some_iff.1 hb).1
set_option maxRecDepth 4000 in
theorem later_cell {w : World} {p : Addr} {v : Value} (h : w.cell? p = some v) : ∀ u : Later w.heap.size w, u.1.cell? p = some v := fun u => (u.2.cell (cell_in h)).trans h
set_option maxRecDepth 4000 in
theorem later_in {f : FuncId} {args : Array Value} {v : Value} {N : Nat} {w : World} {u : Later N w} (hN : N ≤ w.heap.size) (h : Calls Try.prog f args u.1 (Still v u.1)) :
    Calls Try.prog f args u.1 fun e w'' => e = .returned v ∧ ∃ u' : Later N w, w'' = u'.1 :=
  h.mono fun _ w'' ⟨he, hb⟩ => ⟨he, ⟨w'', u.2.trans (hb.mono (Nat.le_trans hN u.2.size))⟩, rfl⟩

end Go.Proofs.Ytegaapeaeffgoaa

namespace Go.Proofs.Ytegaapeaeffgoaa
open Go.RowKit
open Go.WideShapes (add_plain)

/-- A cell that holds u, and may be written. -/
def Free (w : World) (b q : Nat) (u : Value) : Prop := w.cell? ⟨b, q, none⟩ = some u ∧ w.frozen? ⟨b, q, none⟩ = false
/-- What the table of types says of an element of so many cells. -/
structure ElemG (ts te : TypeId) (size by_ : Nat) : Prop where
  under : Try.prog.underlying ts = some (.slice te)
  info : ∃ i z, Try.prog.info? te = some i ∧ i.zero = some z ∧ i.size = size ∧ i.bytes = by_ ∧ z.cells.size = size
  pos : 0 < size
set_option maxRecDepth 4000 in
theorem nodeInfo : (Try.prog.info? 41).map (fun i => (i.zero, i.size, i.bytes)) = some (some (.agg #[.bool false, .slice none 0 0, .slice none 0 0, .slice none 0 0]), 4, 80) := by kernel_rfl
set_option maxRecDepth 4000 in
theorem nodeG : ElemG 39 41 4 80 := ⟨Try.underlying39, by
  obtain ⟨i0, hi, hz0, hz1, hz2⟩ := info_parts nodeInfo
  exact ⟨i0, _, hi, hz0, hz1, hz2, rfl⟩, by decide⟩
end Go.Proofs.Ytegaapeaeffgoaa

namespace Go.Proofs.Ytegaapeaeffgoaa
open Go.RowKit
open Go.WideShapes (add_plain)

/-- Nothing has changed but block g. -/
structure Off (g : Nat) (w w' : World) : Prop where
  os : w'.os = w.os
  tape : w'.tape = w.tape
  output : w'.output = w.output
  size : w.heap.size ≤ w'.heap.size
  block : ∀ k, k < w.heap.size → k ≠ g → w'.heap[k]? = w.heap[k]?
set_option maxRecDepth 4000 in
theorem Off.refl (g : Nat) (w : World) : Off g w w := ⟨rfl, rfl, rfl, Nat.le_refl _, fun _ _ _ => rfl⟩
set_option maxRecDepth 4000 in
theorem Off.of_below {g : Nat} {w w' : World} (h : Below w.heap.size w w') : Off g w w' := ⟨h.os, h.tape, h.output, h.size, fun k hk _ => h.block k hk⟩
set_option maxRecDepth 4000 in
theorem Off.trans {g : Nat} {a b c : World} (h : Off g a b) (k : Off g b c) : Off g a c :=
  ⟨k.os.trans h.os, k.tape.trans h.tape, k.output.trans h.output, Nat.le_trans h.size k.size, fun i hi hg => (k.block i (Nat.lt_of_lt_of_le hi h.size) hg).trans (h.block i hi hg)⟩
set_option maxRecDepth 4000 in
theorem Off.below {g B : Nat} {w w' : World} (h : Off g w w') (hg : B ≤ g) (hB : B ≤ w.heap.size) : Below B w w' :=
  ⟨h.os, h.tape, h.output, h.size, fun k hk => h.block k (by omega) (by omega)⟩
set_option maxRecDepth 4000 in
/-- What a row of the call's own holds, nil or not. -/
theorem own_free {t : TypeId} {size n : Nat} {v : Value} {xs : List Value} {w : World} {base : Nat} (h : w.ownsRow base t size v n xs) : ∃ A c, v = .slice A n c ∧ n ≤ c ∧ c ≤ maxLen ∧ ∀ k u, xs[k]? = some u → ∃ g, A = some ⟨g, 0, none⟩ ∧ base ≤ g ∧ g < w.heap.size ∧ Free w g k u := by
  rcases h.2 with ⟨e, h0⟩ | ⟨g, cap, cur, e, hb, hh, h1, h2, _⟩
  · refine ⟨none, 0, by rw [e, h0], by omega, by unfold maxLen; omega, fun k u hu => ?_⟩
    have := (List.getElem?_eq_some_iff.1 hu).1
    rw [h.1, h0] at this
    omega
  · refine ⟨some ⟨g, 0, none⟩, cap, e, h1, h2, fun k u hu => ⟨g, rfl, hb, lt_of_block hh, ?_, by simp [World.frozen?, hh]⟩⟩
    have := h.cells (g := g) (by rw [e]; rfl) k u hu
    rwa [add_plain, Nat.zero_add] at this

end Go.Proofs.Ytegaapeaeffgoaa

namespace Go.Proofs.Ytegaapeaeffgoaa
open Go.RowKit
open Go.WideShapes (add_plain)

theorem run_append_zeroG {w : World} {ty t : TypeId} {base e size n : Nat} {i : TypeInfo} {v : Value} {xs : List Value} {A : Option Addr} {c : Nat} (ht : Try.prog.underlying t = some (.slice e)) (hi : Try.prog.info? e = some i) (hown : w.ownsRow base e size v n xs) :
    (Builtin.append_ #[t, t] ty #[v, .slice A 0 c]).run Try.prog w = .ok v w := by
  rcases hown.2 with ⟨rfl, rfl⟩ | ⟨g, cap, cur, rfl, _, _, hnc, _⟩
  · cases A <;> simp [Builtin.append_, run_underlying ht, sizeOf, typeInfo, hi, Builtin.lenOf, Builtin.firstCells, loadCells, loadCellsFrom]
  · cases A <;> simp [Builtin.append_, run_underlying ht, sizeOf, typeInfo, hi, Builtin.lenOf, Builtin.firstCells, loadCells, loadCellsFrom, hnc, storeCells]

set_option maxRecDepth 4000 in
theorem grown_none {W w' : World} (h : W.grownBy w' none) : Below W.heap.size W w' := ⟨h.os, h.tape, h.output, h.size, fun k hk => h.block k hk (by simp)⟩
end Go.Proofs.Ytegaapeaeffgoaa

namespace Go.Proofs.Ytegaapeaeffgoaa
open Go.RowKit
open Go.WideShapes (add_plain)
set_option maxRecDepth 4000 in
/-- A list appended to a row of the call's own, and where the new one lies. -/
theorem wpList_append_GX {ts te : TypeId} {size by_ : Nat} (E : ElemG ts te size by_) (W : World) {ops : Array Oper} {rest : List Oper} {o : Oper} {a : Act} {Q : Exit → Act → World → Prop} (hgd : o.guard = none) (s x : Operand)
    (ho : o.op = .call { callee := .builtin .append, args := #[s, x], argTypes := #[ts, ts] })
    (b : Nat) (v : Value) (n : Nat) (k : List Value) (hs : a.eval s = v) (hO : W.ownsRow b te size v n k) (A : Option Addr) (m c B : Nat) (l : List Value) (hx : a.eval x = .slice A m c) (hn : l.length = m * size) (hp : VL W B A l) (h1 : ∀ u ∈ l, u.oneCell' = true)
    (h63 : n + m ≤ maxLen) (hby : (n + m) * by_ ≤ 140737488355328) (hb : b ≤ W.heap.size)
    (hK : ∀ A' c' w', w'.ownsRow b te size (.slice A' (n + m) c') (n + m) (k ++ l) → W.grownBy w' v.ownBlock → ((Value.slice A' (n + m) c').ownBlock = v.ownBlock ∨ ∃ g, (Value.slice A' (n + m) c').ownBlock = some g ∧ W.heap.size ≤ g) → wpList Try.prog ops Q rest (a.put o.dst (.slice A' (n + m) c')) w') :
    wpList Try.prog ops Q (o :: rest) a W := by
  obtain ⟨i0, z, hi, hz0, hz1, hz2, hz3⟩ := E.info
  have hsz := E.pos
  rcases Nat.eq_zero_or_pos m with hm | hm
  · subst hm
    have hl : l = [] := List.eq_nil_of_length_eq_zero (by simpa using hn)
    subst hl
    obtain ⟨A0, c0, rfl, _⟩ := own_free hO
    refine wpList_plain hgd fun K hK2 => ?_
    have hrun := run_append_zeroG (w := W) (ty := o.type) (A := A) (c := c) E.under hi hO
    unfold Oper.wp execOp
    simp only [ho, resolve, invoke, builtin, Sem.run_bind, Sem.run_pure, Result.andThen_ok, List.map_toArray, List.map_cons, List.map_nil, hs, hx, hrun]
    exact hK2 _ _ (hK A0 c0 W (by simpa using hO) ⟨rfl, rfl, rfl, Nat.le_refl _, fun _ _ _ => rfl⟩ (.inl (by cases A0 <;> rfl)))
  · have hl : 0 < l.length := by have := Nat.mul_pos hm hsz; omega
    obtain ⟨b', o', rfl, _, hc⟩ := hp (List.length_pos_iff.1 hl)
    refine wpList_plain hgd fun K hK2 => ?_
    refine wp_append_lies W s x ts ho b te i0 z size by_ E.under hi hz0 hz1 hz2 hz3 hsz v n k hs hO ⟨b', o', none⟩ m c l hx hn (fun j u hj => by rw [add_plain]; exact hc j u hj) h1 hm h63 hby hb W.heap.size rfl (fun g cap w' h1 h2 h3 _ => hK2 _ _ (hK _ cap w' h1 h2 ?_))
    rcases h3 with e | e
    · exact .inl (by rw [e]; rfl)
    · exact .inr ⟨g, rfl, by omega⟩

end Go.Proofs.Ytegaapeaeffgoaa

namespace Go.Proofs.Ytegaapeaeffgoaa
open Go.RowKit
open Go.WideShapes (add_plain)
set_option maxRecDepth 4000 in
/-- A list appended to a row of the call's own, in a region that draws. -/
theorem step_append_GX {ts te : TypeId} {size by_ : Nat} (E : ElemG ts te size by_) (W : World) {ops : Array Oper} {o : Oper} {a : Act} {K : Act → World → Prop} {Q : Exit → Act → World → Prop} {F : Prop} (hgd : o.guard = none) (s x : Operand)
    (ho : o.op = .call { callee := .builtin .append, args := #[s, x], argTypes := #[ts, ts] })
    (b : Nat) (v : Value) (n : Nat) (k : List Value) (hs : a.eval s = v) (hO : W.ownsRow b te size v n k) (A : Option Addr) (m c B : Nat) (l : List Value) (hx : a.eval x = .slice A m c) (hn : l.length = m * size) (hp : VL W B A l) (h1 : ∀ u ∈ l, u.oneCell' = true)
    (h63 : n + m ≤ maxLen) (hby : (n + m) * by_ ≤ 140737488355328) (hb : b ≤ W.heap.size)
    (hK : ∀ A' c' w', w'.ownsRow b te size (.slice A' (n + m) c') (n + m) (k ++ l) → W.grownBy w' v.ownBlock → ((Value.slice A' (n + m) c').ownBlock = v.ownBlock ∨ ∃ g, (Value.slice A' (n + m) c').ownBlock = some g ∧ W.heap.size ≤ g) → K (a.put o.dst (.slice A' (n + m) c')) w') :
    if Region.wanted o (yielded ops a.tmps) = true then Oper.wp Try.prog o a W K Q else F := by
  have hw : Region.wanted o (yielded ops a.tmps) = true := by simp [Region.wanted, hgd]
  rw [if_pos hw]
  obtain ⟨i0, z, hi, hz0, hz1, hz2, hz3⟩ := E.info
  have hsz := E.pos
  rcases Nat.eq_zero_or_pos m with hm | hm
  · subst hm
    have hl : l = [] := List.eq_nil_of_length_eq_zero (by simpa using hn)
    subst hl
    obtain ⟨A0, c0, rfl, _⟩ := own_free hO
    have hrun := run_append_zeroG (w := W) (ty := o.type) (A := A) (c := c) E.under hi hO
    unfold Oper.wp execOp
    simp only [ho, resolve, invoke, builtin, Sem.run_bind, Sem.run_pure, Result.andThen_ok, List.map_toArray, List.map_cons, List.map_nil, hs, hx, hrun]
    exact hK A0 c0 W (by simpa using hO) ⟨rfl, rfl, rfl, Nat.le_refl _, fun _ _ _ => rfl⟩ (.inl (by cases A0 <;> rfl))
  · have hl : 0 < l.length := by have := Nat.mul_pos hm hsz; omega
    obtain ⟨b', o', rfl, _, hc⟩ := hp (List.length_pos_iff.1 hl)
    refine wp_append_lies W s x ts ho b te i0 z size by_ E.under hi hz0 hz1 hz2 hz3 hsz v n k hs hO ⟨b', o', none⟩ m c l hx hn (fun j u hj => by rw [add_plain]; exact hc j u hj) h1 hm h63 hby hb W.heap.size rfl (fun g cap w' h1 h2 h3 _ => hK _ cap w' h1 h2 ?_)
    rcases h3 with e | e
    · exact .inl (by rw [e]; rfl)
    · exact .inr ⟨g, rfl, by omega⟩
set_option maxRecDepth 4000 in
theorem step_append_G0 {ts te : TypeId} {size by_ : Nat} (E : ElemG ts te size by_) (W : World) {ops : Array Oper} {o : Oper} {a : Act} {K : Act → World → Prop} {Q : Exit → Act → World → Prop} {F : Prop} (hgd : o.guard = none) (s x : Operand)
    (ho : o.op = .call { callee := .builtin .append, args := #[s, x], argTypes := #[ts, ts] })
    (b : Nat) (hs : a.eval s = .slice none 0 0) (A : Option Addr) (m c B : Nat) (l : List Value) (hx : a.eval x = .slice A m c) (hn : l.length = m * size) (hp : VL W B A l) (h1 : ∀ u ∈ l, u.oneCell' = true)
    (h63 : m ≤ maxLen) (hby : m * by_ ≤ 140737488355328) (hb : b ≤ W.heap.size)
    (hK : ∀ A' c' w', w'.ownsRow b te size (.slice A' m c') m l → Below W.heap.size W w' → ((Value.slice A' m c').ownBlock = none ∨ ∃ g, (Value.slice A' m c').ownBlock = some g ∧ W.heap.size ≤ g) → K (a.put o.dst (.slice A' m c')) w') :
    if Region.wanted o (yielded ops a.tmps) = true then Oper.wp Try.prog o a W K Q else F := by
  refine step_append_GX E W hgd s x ho b (.slice none 0 0) 0 [] hs (World.ownsRow_nil _ _ _ _) A m c B l hx hn hp h1 (by rw [Nat.zero_add]; exact h63) (by rw [Nat.zero_add]; exact hby) hb (fun A' c' w' h1 h2 h3 => ?_)
  rw [Nat.zero_add, List.nil_append] at h1
  rw [Nat.zero_add] at h3 ⊢
  exact hK A' c' w' h1 (grown_none h2) h3

end Go.Proofs.Ytegaapeaeffgoaa

namespace Go.Proofs.Ytegaapeaeffgoaa
open Go.RowKit
/-! A block of two cells. -/
section
variable {w w' : World} {g : Nat} {a b x y : Value} {t : TypeId}
set_option maxRecDepth 4000 in
theorem set_blk (w : World) (g : Nat) (t : TypeId) (cs : Array Value) (k : Nat) (x : Value) (h : w.heap[g]? = some (.cells cs t (0, 0))) : (w.setCell ⟨g, k, none⟩ x).heap[g]? = some (.cells (cs.setIfInBounds k x) t (0, 0)) := by
  have hlt := lt_of_block h
  have h' : w.heap[g] = .cells cs t (0, 0) := by simpa [Array.getElem?_eq_getElem hlt] using h
  show (w.heap.modify g _)[g]? = _
  rw [Array.getElem?_eq_getElem (by simpa using hlt), Array.getElem_modify_self, h']
  rfl
end
end Go.Proofs.Ytegaapeaeffgoaa

namespace Go.Proofs.Ytegaapeaeffgoaa
open Go.RowKit
open Go.WideShapes (add_plain)
set_option maxRecDepth 4000 in
theorem step_b {w0 W w' : World} (h : Below w0.heap.size w0 W) (hb : Below W.heap.size W w') : Below w0.heap.size w0 w' := h.trans (hb.mono h.size)

end Go.Proofs.Ytegaapeaeffgoaa

namespace Go.Proofs.Ytegaapeaeffgoaa
open Go.RowKit

theorem setRow_new (W : World) (old cells : Array Value) (t : TypeId) : (W.alloc (.cells old t)).setRow W.heap.size cells = W.alloc (.cells cells t) := by
  have hh : ((W.alloc (.cells old t)).setRow W.heap.size cells).heap = (W.alloc (.cells cells t)).heap := by
    apply Array.ext_getElem?
    intro i
    by_cases e : i = W.heap.size
    · subst e
      rw [setRow_heap _ _ old cells t (0, 0) (heap_alloc_new _ _)]
      exact (heap_alloc_new _ _).symm
    · rw [setRow_other _ _ _ _ e]
      show (W.heap.push _)[i]? = (W.heap.push _)[i]?
      rw [Array.getElem?_push, Array.getElem?_push, if_neg e, if_neg e]
  have h2 : (W.alloc (.cells old t)).setRow W.heap.size cells = { W.alloc (.cells cells t) with heap := ((W.alloc (.cells old t)).setRow W.heap.size cells).heap } := rfl
  rw [h2, hh]
end Go.Proofs.Ytegaapeaeffgoaa

namespace Go.Proofs.Ytegaapeaeffgoaa
open Go.RowKit
set_option maxRecDepth 4000 in
/-- Stored into a variable that was there: nothing else has changed. -/
theorem setRow_off (w : World) (g : Nat) (cells old : Array Value) (t : TypeId) (_h : w.heap[g]? = some (.cells old t (0, 0))) : Off g w (w.setRow g cells) :=
  ⟨rfl, rfl, rfl, by show _ ≤ (w.heap.modify g _).size; simp, fun k _ hne => setRow_other _ _ _ _ hne⟩
end Go.Proofs.Ytegaapeaeffgoaa

namespace Go.Proofs.Ytegaapeaeffgoaa
open Go.RowKit

def putAll (cs : Array Value) : Nat → List Value → Array Value
  | _, [] => cs
  | j, v :: r => putAll (cs.setIfInBounds j v) (j + 1) r
set_option maxRecDepth 4000 in
theorem setCells_row (g : Nat) (t : TypeId) : ∀ (vs : List Value) (j : Nat) (w : World) (cs : Array Value), w.heap[g]? = some (.cells cs t (0, 0)) → (w.setCells g j vs).heap[g]? = some (.cells (putAll cs j vs) t (0, 0)) ∧ Off g w (w.setCells g j vs)
  | [], j, w, cs, h => ⟨h, Off.refl g w⟩
  | v :: r, j, w, cs, h => by
    obtain ⟨h1, h2⟩ := setCells_row g t r (j + 1) _ _ (set_blk w g t cs j v h)
    have h3 : Off g w (w.setCell ⟨g, j, none⟩ v) := ⟨rfl, rfl, rfl, by show _ ≤ (w.heap.modify g _).size; simp, fun k _ hne => Below.heap_setCell w ⟨g, j, none⟩ v k (by simpa using hne)⟩
    exact ⟨h1, h3.trans h2⟩
set_option maxRecDepth 4000 in
/-- At a store, or a load, of a type: else it fails at once. -/
theorem gd_store {P : Program} {ops : Array Oper} {Q : Exit → Act → World → Prop} {dst : Option Nat} {ty : TypeId} {x y : Operand} {t : TypeId} {pos : String} {af : Array Edge} {rest : List Oper} {a : Act} {w : World} (h : wpList P ops Q ({ dst := dst, op := .store ty x y, type := t, pos := pos, after := af, guard := none } :: rest) a w) : wpList P ops Q ({ dst := dst, op := .store ty x y, type := t, pos := pos, after := af, guard := none } :: rest) a w := h
set_option maxRecDepth 4000 in
theorem gd_load {P : Program} {ops : Array Oper} {Q : Exit → Act → World → Prop} {dst : Option Nat} {ty : TypeId} {x : Operand} {t : TypeId} {pos : String} {af : Array Edge} {rest : List Oper} {a : Act} {w : World} (h : wpList P ops Q ({ dst := dst, op := .load ty x, type := t, pos := pos, after := af, guard := none } :: rest) a w) : wpList P ops Q ({ dst := dst, op := .load ty x, type := t, pos := pos, after := af, guard := none } :: rest) a w := h
set_option maxRecDepth 4000 in
theorem gd_loadg {P : Program} {ops : Array Oper} {Q : Exit → Act → World → Prop} {dst : Option Nat} {ty : TypeId} {x : Operand} {t : TypeId} {pos : String} {af : Array Edge} {gq : Nat × Bool} {rest : List Oper} {a : Act} {w : World} (h : wpList P ops Q ({ dst := dst, op := .load ty x, type := t, pos := pos, after := af, guard := some gq } :: rest) a w) : wpList P ops Q ({ dst := dst, op := .load ty x, type := t, pos := pos, after := af, guard := some gq } :: rest) a w := h
set_option maxRecDepth 4000 in
theorem row_node : ∃ d, Try.prog.underlying 41 = some d ∧ d.isRow = true ∧ (Try.prog.info? 41).map (·.size) = some 4 := ⟨.struct (Try.prog.fieldsOf 41), by kernel_rfl, rfl, by kernel_rfl⟩
set_option maxRecDepth 4000 in
/-- A store into one of two variables. -/
theorem off_below {w W W' : World} {g : Nat} (hb : Below w.heap.size w W) (ho : Off g W W') (hg : w.heap.size ≤ g) : Below w.heap.size w W' := hb.trans (ho.below hg hb.size)

end Go.Proofs.Ytegaapeaeffgoaa

namespace Go.Proofs.Ytegaapeaeffgoaa
open Go.RowKit

/-- A row's type: its size in cells. -/
def RowT (t : TypeId) (n : Nat) : Prop := ∃ d, Try.prog.underlying t = some d ∧ d.isRow = true ∧ (Try.prog.info? t).map (·.size) = some n
/-- Block g holds the row r. -/
def VarR (t : TypeId) (w : World) (g : Nat) (r : Array Value) : Prop := w.heap[g]? = some (.cells r t (0, 0))
section
variable {t : TypeId} {w w' : World} {g : Nat} {r r' : Array Value}
set_option maxRecDepth 4000 in
theorem VarR.lt (h : VarR t w g r) : g < w.heap.size := (Array.getElem?_eq_some_iff.1 h).1
set_option maxRecDepth 4000 in
theorem VarR.keep (h : VarR t w g r) (hb : Below w.heap.size w w') : VarR t w' g r := (hb.block _ h.lt).trans h
set_option maxRecDepth 4000 in
theorem VarR.off {k : Nat} (h : VarR t w g r) (ho : Off k w w') (hne : g ≠ k) : VarR t w' g r := (ho.block _ h.lt hne).trans h
set_option maxRecDepth 4000 in
theorem VarR.new (w : World) (t : TypeId) (r : Array Value) : VarR t (w.alloc (.cells r t)) w.heap.size r := heap_alloc_new w _
set_option maxRecDepth 4000 in
theorem VarR.alloc (h : VarR t w g r) (o : Obj) : VarR t (w.alloc o) g r := h.keep ((Below.refl _ _).alloc (Nat.le_refl _) _)
set_option maxRecDepth 4000 in
theorem VarR.cell (h : VarR t w g r) (j : Nat) (v : Value) (hv : r[j]? = some v) : w.cell? ⟨g, j, none⟩ = some v := by
  unfold VarR at h
  simp [World.cell?, h, hv]
end
set_option maxRecDepth 4000 in
theorem wpList_load_row {t : TypeId} {n : Nat} (hrow : RowT t n) {ops : Array Oper} {rest : List Oper} {op : Oper} {a : Act} {w : World} {Q : Exit → Act → World → Prop} {g : Nat} {r : Array Value} (h : VarR t w g r) (hn : r.size = n)
    (x : Operand) (ho : op.op = .load t x) (hgd : op.guard = none) (hx : a.eval x = .pointer (some ⟨g, 0, none⟩)) (hk : wpList Try.prog ops Q rest (a.put op.dst (.agg r)) w) : wpList Try.prog ops Q (op :: rest) a w := by
  obtain ⟨d, h1, h2, h3⟩ := hrow
  exact wpList_load_mid hgd t x ho g 0 hx r.toList d (fun i v hi => by rw [Nat.zero_add]; exact h.cell i v (by simpa using hi)) h1 h2 (by rw [h3, ← hn]; simp) hk
set_option maxRecDepth 4000 in
theorem wpList_load_rowg {t : TypeId} {n : Nat} (hrow : RowT t n) {ops : Array Oper} {rest : List Oper} {op : Oper} {a : Act} {w : World} {Q : Exit → Act → World → Prop} {g : Nat} {r : Array Value} (h : VarR t w g r) (hn : r.size = n)
    (x : Operand) (ho : op.op = .load t x) (hw : Region.wanted op (yielded ops a.tmps) = true) (hx : a.eval x = .pointer (some ⟨g, 0, none⟩)) (hk : wpList Try.prog ops Q rest (a.put op.dst (.agg r)) w) : wpList Try.prog ops Q (op :: rest) a w := by
  obtain ⟨d, h1, h2, h3⟩ := hrow
  refine wpList_step fun K hK => ?_
  rw [if_pos hw]
  exact wp_load_mid t x ho g 0 hx r.toList d (fun i v hi => by rw [Nat.zero_add]; exact h.cell i v (by simpa using hi)) h1 h2 (by rw [h3, ← hn]; simp) (hK _ _ hk)
set_option maxRecDepth 4000 in
theorem wpList_store_row2 {t : TypeId} {n : Nat} (hrow : RowT t n) {ops : Array Oper} {rest : List Oper} {op : Oper} {a : Act} {W : World} {Q : Exit → Act → World → Prop} {g : Nat} {r0 r : Array Value} (h : VarR t W g r0) (hn0 : r0.size = n) (hn : r.size = n) (hone : r.all (·.oneCell') = true) (x y : Operand) (ho : op.op = .store t x y) (hgd : op.guard = none) (hd : op.dst = none) (hx : a.eval x = .pointer (some ⟨g, 0, none⟩)) (hy : a.eval y = .agg r)
    (hk : ∀ W', VarR t W' g r → Off g W W' → wpList Try.prog ops Q rest a W') : wpList Try.prog ops Q (op :: rest) a W := by
  obtain ⟨d, h3, h4, h5⟩ := hrow
  refine wpList_store_row hgd t x y ho g _ hx hy t r0 h (by rw [h5, ← hn]) (by rw [hn0, hn]) hone ?_
  rw [hd]
  exact hk _ (setRow_heap _ _ r0 r _ (0, 0) h) (setRow_off _ _ _ _ _ h)
set_option maxRecDepth 4000 in
theorem rowT_node : RowT 41 4 := row_node
/-- Where a node's parts lie, and a selection's. -/
structure NC where
  lf : Bool
  P : Option Addr
  np : Nat
  pc : Nat
  X : Option Addr
  nt : Nat
  tc : Nat
  K : Option Addr
  nk : Nat
  kc : Nat
def NC.row (c : NC) : Array Value := #[.bool c.lf, .slice c.P c.np c.pc, .slice c.X c.nt c.tc, .slice c.K c.nk c.kc]
set_option maxRecDepth 4000 in
theorem NC.one (c : NC) : c.row.all (·.oneCell') = true := by kernel_rfl
end Go.Proofs.Ytegaapeaeffgoaa

namespace Go.Proofs.Ytegaapeaeffgoaa
open Go.RowKit

theorem rowT_act : RowT 24 2 := ⟨.struct (Try.prog.fieldsOf 24), by kernel_rfl, rfl, by kernel_rfl⟩
set_option maxRecDepth 4000 in
theorem rowT_pair : RowT 52 3 := ⟨.struct (Try.prog.fieldsOf 52), by kernel_rfl, rfl, by kernel_rfl⟩
set_option maxRecDepth 4000 in
theorem rowT_rule : RowT 27 8 := ⟨.struct (Try.prog.fieldsOf 27), by kernel_rfl, rfl, by kernel_rfl⟩
set_option maxRecDepth 4000 in
theorem rowT_sch : RowT 30 16 := ⟨.struct (Try.prog.fieldsOf 30), by kernel_rfl, rfl, by kernel_rfl⟩
set_option maxRecDepth 4000 in
theorem wpList_load_at {t : TypeId} {n : Nat} (hrow : RowT t n) {ops : Array Oper} {rest : List Oper} {op : Oper} {a : Act} {w : World} {Q : Exit → Act → World → Prop} {g off : Nat} {r : Array Value} (h : w.rangeAt g off r.toList) (hn : r.size = n)
    (x : Operand) (ho : op.op = .load t x) (hgd : op.guard = none) (hx : a.eval x = .pointer (some ⟨g, off, none⟩)) (hk : wpList Try.prog ops Q rest (a.put op.dst (.agg r)) w) : wpList Try.prog ops Q (op :: rest) a w := by
  obtain ⟨d, h1, h2, h3⟩ := hrow
  exact wpList_load_mid hgd t x ho g off hx r.toList d h h1 h2 (by rw [h3, ← hn]; simp) hk
set_option maxRecDepth 4000 in
/-- A variable that is new takes a row. -/
theorem wpList_store_new {t : TypeId} {n : Nat} (hrow : RowT t n) {ops : Array Oper} {rest : List Oper} {op : Oper} {a : Act} {W : World} {Q : Exit → Act → World → Prop} {g : Nat} {old r : Array Value} (hold : old.size = n) (hn : r.size = n) (hone : r.all (·.oneCell') = true) (x y : Operand) (ho : op.op = .store t x y) (hgd : op.guard = none) (hd : op.dst = none) (hx : a.eval x = .pointer (some ⟨g, 0, none⟩)) (hy : a.eval y = .agg r) (hg : g = W.heap.size)
    (hk : wpList Try.prog ops Q rest a (W.alloc (.cells r t))) : wpList Try.prog ops Q (op :: rest) a (W.alloc (.cells old t)) := by
  subst hg
  obtain ⟨d, h3, h4, h5⟩ := hrow
  have hrun := run_storeVar_row (P := Try.prog) (W.alloc (.cells old t)) W.heap.size t t old r (heap_alloc_new _ _) (by rw [h5, hn]) (by rw [hold, hn]) hone
  rw [setRow_new] at hrun
  refine wpList_plain hgd fun K hK => ?_
  unfold Oper.wp execOp
  simp only [ho, hx, hy, Instr.storeAt, Instr.sureAddr, Sem.run_bind, Sem.run_pure, Result.andThen_ok, hrun]
  show K (a.put op.dst undef) _
  rw [hd]
  exact hK _ _ hk
set_option maxRecDepth 4000 in
theorem result_row {t : TypeId} {n : Nat} (hrow : RowT t n) {fn : Func} {p : Tmp} (h : fn.results = #[.cell p t]) (tmps : Array Value) (w : World) {g : Nat} {r : Array Value} (hv : VarR t w g r) (hn : r.size = n) (hp : tmps.getD p undef = .pointer (some ⟨g, 0, none⟩)) : (results fn tmps).run Try.prog w = .ok (.agg r) w := by
  obtain ⟨d, h3, h4, h5⟩ := hrow
  exact results_cell_row h tmps w g t r (0, 0) d hp hv h3 (by cases d <;> simp_all) (by rw [h5, ← hn])
set_option maxRecDepth 4000 in
theorem VarR.range {t : TypeId} {w : World} {g : Nat} {r : Array Value} (h : VarR t w g r) (off : Nat) (l : List Value) (hl : ∀ j v, l[j]? = some v → r[off + j]? = some v) : w.rangeAt g off l := fun j v hv => h.cell (off + j) v (hl j v hv)
set_option maxRecDepth 4000 in
theorem VarR.two {t : TypeId} {w : World} {g : Nat} {r : Array Value} (h : VarR t w g r) (off : Nat) {x y : Value} (h0 : r[off]? = some x) (h1 : r[off + 1]? = some y) : w.rangeAt g off (#[x, y] : Array Value).toList := h.range off _ fun j v hv => by
  match j with
  | 0 => simp at hv; rw [← hv]; exact h0
  | 1 => simp at hv; rw [← hv]; exact h1
  | j + 2 => simp at hv
set_option maxRecDepth 4000 in
theorem act_one (n : Int) (s : Nm) : (#[.int .i64 n, .string s] : Array Value).all (·.oneCell') = true := by kernel_rfl
set_option maxRecDepth 4000 in
theorem ScC.els_at (c : ScC) (j : Nat) (v : Value) (h : c.e.row.toList[j]? = some v) : c.row[1 + j]? = some v := by
  match j, h with
  | 0, h => exact h
  | 1, h => exact h
  | 2, h => exact h
  | 3, h => exact h
  | 4, h => exact h
  | 5, h => exact h
  | 6, h => exact h
  | 7, h => exact h
  | j + 8, h =>
    have := (List.getElem?_eq_some_iff.1 h).1
    have e : c.e.row.toList.length = 8 := rfl
    omega
set_option maxRecDepth 4000 in
theorem run_act_0 (n : Int) (s : Nm) (W : World) : (Instr.field 24 (.agg #[.int .i64 n, .string s]) 0).run Try.prog W = .ok (.int .i64 n) W := by rfl

end Go.Proofs.Ytegaapeaeffgoaa

namespace Go.Proofs.Ytegaapeaeffgoaa
open Go.RowKit

/-- The number of the first that p takes of n, or -1. -/
def firstI (p : Nat → Bool) (n : Nat) : Int := match (List.range n).find? p with
  | some k => k
  | none => -1
def anyN (p : Nat → Bool) (n : Nat) : Bool := (List.range n).any p
set_option maxRecDepth 4000 in
theorem find_hit {p : Nat → Bool} {n k : Nat} (hk : k < n) (h0 : ∀ j, j < k → p j = false) (h : p k = true) : (List.range n).find? p = some k := by
  have := find_first id p n k hk h0 h
  simpa using this
set_option maxRecDepth 4000 in
theorem firstI_hit {p : Nat → Bool} {n k : Nat} (hk : k < n) (h0 : ∀ j, j < k → p j = false) (h : p k = true) : firstI p n = k := by
  unfold firstI
  rw [find_hit hk h0 h]
set_option maxRecDepth 4000 in
theorem firstI_miss {p : Nat → Bool} {n : Nat} (h0 : ∀ j, j < n → p j = false) : firstI p n = -1 := by
  unfold firstI
  rw [List.find?_eq_none.2 fun x hx => by simp [h0 x (List.mem_range.1 hx)]]
set_option maxRecDepth 4000 in
theorem firstI_cases (p : Nat → Bool) (n : Nat) : (∃ k, k < n ∧ firstI p n = k ∧ p k = true ∧ ∀ j, j < k → p j = false) ∨ (firstI p n = -1 ∧ ∀ j, j < n → p j = false) := by
  rcases Classical.em (∃ k, k < n ∧ p k = true) with h | h
  · obtain ⟨k, hk⟩ : ∃ k, (k < n ∧ p k = true) ∧ ∀ j, j < k → ¬ (j < n ∧ p j = true) := by
      obtain ⟨k, hk⟩ := h
      induction k using Nat.strongRecOn with
      | ind k ih =>
        rcases Classical.em (∃ j, j < k ∧ (j < n ∧ p j = true)) with ⟨j, h1, h2⟩ | h1
        · exact ih j h1 h2
        · exact ⟨k, hk, fun j hj h2 => h1 ⟨j, hj, h2⟩⟩
    have h0 : ∀ j, j < k → p j = false := fun j hj => by
      cases e : p j
      · rfl
      · exact absurd ⟨Nat.lt_trans hj hk.1.1, e⟩ (hk.2 j hj)
    exact .inl ⟨k, hk.1.1, firstI_hit hk.1.1 h0 hk.1.2, hk.1.2, h0⟩
  · have h0 : ∀ j, j < n → p j = false := fun j hj => by
      cases e : p j
      · rfl
      · exact absurd ⟨j, hj, e⟩ h
    exact .inr ⟨firstI_miss h0, h0⟩
set_option maxRecDepth 4000 in
theorem firstI_any (p : Nat → Bool) (n : Nat) : anyN p n = decide (0 ≤ firstI p n) := by
  unfold anyN
  rcases firstI_cases p n with ⟨k, hk, e, h, _⟩ | ⟨e, h⟩
  · rw [e, List.any_eq_true.2 ⟨k, List.mem_range.2 hk, h⟩]
    exact (decide_eq_true (by omega)).symm
  · rw [e]
    rw [List.any_eq_false.2 fun x hx => by simp [h x (List.mem_range.1 hx)]]
    rfl
set_option maxRecDepth 4000 in
theorem gd_call {P : Program} {f : FuncId} {args : Array Value} {w : World} {Q : Ending → World → Prop} (h : Calls P f args w Q) : Calls P f args w Q := h
/-- A row of things at A: n of them, each of so many cells. -/
def RowA (w : World) (A : Option Addr) (n m : Nat) (rows : Nat → Array Value) : Prop := (∀ k, (rows k).size = m) ∧ ∀ k, k < n → ∃ b o, A = some ⟨b, o, none⟩ ∧ b < w.heap.size ∧ w.rangeAt b (o + k * m) (rows k).toList
set_option maxRecDepth 4000 in
theorem RowA.later {w w' : World} {A : Option Addr} {n m : Nat} {rows : Nat → Array Value} (h : RowA w A n m rows) (hb : Below w.heap.size w w') : RowA w' A n m rows :=
  ⟨h.1, fun k hk => by
    obtain ⟨b, o, e, hl, hr⟩ := h.2 k hk
    exact ⟨b, o, e, Nat.lt_of_lt_of_le hl hb.size, rangeAt_later hr hl hb⟩⟩
/-- A function, called with any of them, answers p, and leaves what was there. -/
def Asks (w : World) (fid : FuncId) (bs : Array Value) (n : Nat) (rows : Nat → Array Value) (p : Nat → Bool) : Prop :=
  (∀ args w, (callFunc fid args).run Try.prog w = .ok (.enter fid args) w) ∧ ∀ k, k < n → ∀ w', Below w.heap.size w w' → Calls Try.prog fid (#[.agg (rows k)] ++ bs) w' (Still (.bool (p k)) w')

set_option maxRecDepth 100000 in
set_option maxHeartbeats 4000000 in
theorem idx_pair {w : World} {A : Option Addr} {n c : Nat} {fid : FuncId} {bs : Array Value} {rows : Nat → Array Value} {p : Nat → Bool} {E : Int} (hn : n ≤ 100000) (hR : RowA w A n 3 rows) (hA : Asks w fid bs n rows p) (hE : firstI p n = E) :
    Calls Try.prog 53 #[.slice A n c, .func (.func fid) #[] bs] w (Still (.int .i64 E) w) := by
  have HR := hd hR
  have HAS := hd hA.2
  have HE := hd hE
  have hent := hA.1
  clear hR hA hE
  go_enter Try.func53, Try.ntmps53
  go_wp2_with fail
  go_loopw [8] (fun i wr => ∃ k : Nat, k ≤ n ∧ i = .int .i64 k ∧ Hid (∀ j, j < k → p j = false) ∧ Hid (Below w.heap.size w wr)) (fun i _ => n - (intOf i).toNat)
  case atStart => exact ⟨0, Nat.zero_le _, rfl, hd (fun j hj => absurd hj (Nat.not_lt_zero _)), hd (Below.refl _ _)⟩
  case round =>
    obtain ⟨k, hk1, rfl, HA, HB⟩ := hrel
    by_cases hlt : k < n
    · obtain ⟨b, o, rfl, hb, hr⟩ := (HR.out.later HB.out).2 k hlt
      have HRG := hd hr
      have HSZ := hd (HR.out.1 k)
      have HC := hd (HAS.out k hlt wr HB.out)
      clear hb hr
      cases hp : p k
      · have HA2 := one_more HA hp
        rw [hp] at HC
        clear hp HA
        go_wp2_with (first
          | ((with_reducible refine gd_load (ty := 52) (x := .tmp 14) ?_); refine wpList_load_at rowT_pair (r := rows k) HRG.out HSZ.out _ rfl rfl rfl ?_)
          | ((with_reducible refine gd_call ?_); refine HC.out.mono ?_; rintro e w1 ⟨rfl, b9⟩; have HB := hd (step_b HB.out b9); clear b9))
        go_roundw
        case rel => exact ⟨k + 1, by omega, by go_num, HA2, HB⟩
        case measure => simp [intOf]; omega
      · have HX := hd (HE.out.symm.trans (firstI_hit hlt HA.out hp))
        rw [hp] at HC
        clear hp HA
        go_wp2_with (first
          | ((with_reducible refine gd_load (ty := 52) (x := .tmp 14) ?_); refine wpList_load_at rowT_pair (r := rows k) HRG.out HSZ.out _ rfl rfl rfl ?_)
          | ((with_reducible refine gd_call ?_); refine HC.out.mono ?_; rintro e w1 ⟨rfl, b9⟩; have HB := hd (step_b HB.out b9); clear b9))
        go_ret
        exact ⟨ret_int HX.out.symm, HB.out⟩
    · obtain rfl : k = n := by omega
      have HX := hd (HE.out.symm.trans (firstI_miss HA.out))
      go_wp2_with fail
      go_ret
      exact ⟨ret_int HX.out.symm, HB.out⟩
set_option maxRecDepth 100000 in
set_option maxHeartbeats 4000000 in
theorem idx_rule {w : World} {A : Option Addr} {n c : Nat} {fid : FuncId} {bs : Array Value} {rows : Nat → Array Value} {p : Nat → Bool} {E : Int} (hn : n ≤ 100000) (hR : RowA w A n 8 rows) (hA : Asks w fid bs n rows p) (hE : firstI p n = E) :
    Calls Try.prog 59 #[.slice A n c, .func (.func fid) #[] bs] w (Still (.int .i64 E) w) := by
  have HR := hd hR
  have HAS := hd hA.2
  have HE := hd hE
  have hent := hA.1
  clear hR hA hE
  go_enter Try.func59, Try.ntmps59
  go_wp2_with fail
  go_loopw [8] (fun i wr => ∃ k : Nat, k ≤ n ∧ i = .int .i64 k ∧ Hid (∀ j, j < k → p j = false) ∧ Hid (Below w.heap.size w wr)) (fun i _ => n - (intOf i).toNat)
  case atStart => exact ⟨0, Nat.zero_le _, rfl, hd (fun j hj => absurd hj (Nat.not_lt_zero _)), hd (Below.refl _ _)⟩
  case round =>
    obtain ⟨k, hk1, rfl, HA, HB⟩ := hrel
    by_cases hlt : k < n
    · obtain ⟨b, o, rfl, hb, hr⟩ := (HR.out.later HB.out).2 k hlt
      have HRG := hd hr
      have HSZ := hd (HR.out.1 k)
      have HC := hd (HAS.out k hlt wr HB.out)
      clear hb hr
      cases hp : p k
      · have HA2 := one_more HA hp
        rw [hp] at HC
        clear hp HA
        go_wp2_with (first
          | ((with_reducible refine gd_load (ty := 27) (x := .tmp 14) ?_); refine wpList_load_at rowT_rule (r := rows k) HRG.out HSZ.out _ rfl rfl rfl ?_)
          | ((with_reducible refine gd_call ?_); refine HC.out.mono ?_; rintro e w1 ⟨rfl, b9⟩; have HB := hd (step_b HB.out b9); clear b9))
        go_roundw
        case rel => exact ⟨k + 1, by omega, by go_num, HA2, HB⟩
        case measure => simp [intOf]; omega
      · have HX := hd (HE.out.symm.trans (firstI_hit hlt HA.out hp))
        rw [hp] at HC
        clear hp HA
        go_wp2_with (first
          | ((with_reducible refine gd_load (ty := 27) (x := .tmp 14) ?_); refine wpList_load_at rowT_rule (r := rows k) HRG.out HSZ.out _ rfl rfl rfl ?_)
          | ((with_reducible refine gd_call ?_); refine HC.out.mono ?_; rintro e w1 ⟨rfl, b9⟩; have HB := hd (step_b HB.out b9); clear b9))
        go_ret
        exact ⟨ret_int HX.out.symm, HB.out⟩
    · obtain rfl : k = n := by omega
      have HX := hd (HE.out.symm.trans (firstI_miss HA.out))
      go_wp2_with fail
      go_ret
      exact ⟨ret_int HX.out.symm, HB.out⟩
set_option maxRecDepth 100000 in
set_option maxHeartbeats 4000000 in
theorem idx_node {w : World} {A : Option Addr} {n c : Nat} {fid : FuncId} {bs : Array Value} {rows : Nat → Array Value} {p : Nat → Bool} {E : Int} (hn : n ≤ 100000) (hR : RowA w A n 4 rows) (hA : Asks w fid bs n rows p) (hE : firstI p n = E) :
    Calls Try.prog 68 #[.slice A n c, .func (.func fid) #[] bs] w (Still (.int .i64 E) w) := by
  have HR := hd hR
  have HAS := hd hA.2
  have HE := hd hE
  have hent := hA.1
  clear hR hA hE
  go_enter Try.func68, Try.ntmps68
  go_wp2_with fail
  go_loopw [8] (fun i wr => ∃ k : Nat, k ≤ n ∧ i = .int .i64 k ∧ Hid (∀ j, j < k → p j = false) ∧ Hid (Below w.heap.size w wr)) (fun i _ => n - (intOf i).toNat)
  case atStart => exact ⟨0, Nat.zero_le _, rfl, hd (fun j hj => absurd hj (Nat.not_lt_zero _)), hd (Below.refl _ _)⟩
  case round =>
    obtain ⟨k, hk1, rfl, HA, HB⟩ := hrel
    by_cases hlt : k < n
    · obtain ⟨b, o, rfl, hb, hr⟩ := (HR.out.later HB.out).2 k hlt
      have HRG := hd hr
      have HSZ := hd (HR.out.1 k)
      have HC := hd (HAS.out k hlt wr HB.out)
      clear hb hr
      cases hp : p k
      · have HA2 := one_more HA hp
        rw [hp] at HC
        clear hp HA
        go_wp2_with (first
          | ((with_reducible refine gd_load (ty := 41) (x := .tmp 14) ?_); refine wpList_load_at rowT_node (r := rows k) HRG.out HSZ.out _ rfl rfl rfl ?_)
          | ((with_reducible refine gd_call ?_); refine HC.out.mono ?_; rintro e w1 ⟨rfl, b9⟩; have HB := hd (step_b HB.out b9); clear b9))
        go_roundw
        case rel => exact ⟨k + 1, by omega, by go_num, HA2, HB⟩
        case measure => simp [intOf]; omega
      · have HX := hd (HE.out.symm.trans (firstI_hit hlt HA.out hp))
        rw [hp] at HC
        clear hp HA
        go_wp2_with (first
          | ((with_reducible refine gd_load (ty := 41) (x := .tmp 14) ?_); refine wpList_load_at rowT_node (r := rows k) HRG.out HSZ.out _ rfl rfl rfl ?_)
          | ((with_reducible refine gd_call ?_); refine HC.out.mono ?_; rintro e w1 ⟨rfl, b9⟩; have HB := hd (step_b HB.out b9); clear b9))
        go_ret
        exact ⟨ret_int HX.out.symm, HB.out⟩
    · obtain rfl : k = n := by omega
      have HX := hd (HE.out.symm.trans (firstI_miss HA.out))
      go_wp2_with fail
      go_ret
      exact ⟨ret_int HX.out.symm, HB.out⟩
set_option maxRecDepth 4000 in
theorem cont_pair {w : World} {A : Option Addr} {n c : Nat} {fid : FuncId} {bs : Array Value} {rows : Nat → Array Value} {p : Nat → Bool} {E : Bool} (hn : n ≤ 100000) (hR : RowA w A n 3 rows) (hA : Asks w fid bs n rows p) (hE : anyN p n = E) :
    Calls Try.prog 62 #[.slice A n c, .func (.func fid) #[] bs] w (Still (.bool E) w) := by
  obtain ⟨i, hi⟩ : ∃ i, firstI p n = i := ⟨_, rfl⟩
  have HC := hd (idx_pair (c := c) hn hR hA hi)
  rw [firstI_any, hi] at hE
  clear hR hA hi
  subst hE
  cases hd0 : decide (0 ≤ i)
  · go_enter Try.func62, Try.ntmps62
    go_wp2_with (go_at_call 53; refine HC.out.mono ?_; rintro e w1 ⟨rfl, b9⟩; have HB := hd b9; clear b9)
    go_ret
    exact ⟨rfl, HB.out⟩
  · go_enter Try.func62, Try.ntmps62
    go_wp2_with (go_at_call 53; refine HC.out.mono ?_; rintro e w1 ⟨rfl, b9⟩; have HB := hd b9; clear b9)
    go_ret
    exact ⟨rfl, HB.out⟩
set_option maxRecDepth 4000 in
theorem cont_rule {w : World} {A : Option Addr} {n c : Nat} {fid : FuncId} {bs : Array Value} {rows : Nat → Array Value} {p : Nat → Bool} {E : Bool} (hn : n ≤ 100000) (hR : RowA w A n 8 rows) (hA : Asks w fid bs n rows p) (hE : anyN p n = E) :
    Calls Try.prog 38 #[.slice A n c, .func (.func fid) #[] bs] w (Still (.bool E) w) := by
  obtain ⟨i, hi⟩ : ∃ i, firstI p n = i := ⟨_, rfl⟩
  have HC := hd (idx_rule (c := c) hn hR hA hi)
  rw [firstI_any, hi] at hE
  clear hR hA hi
  subst hE
  cases hd0 : decide (0 ≤ i)
  · go_enter Try.func38, Try.ntmps38
    go_wp2_with (go_at_call 59; refine HC.out.mono ?_; rintro e w1 ⟨rfl, b9⟩; have HB := hd b9; clear b9)
    go_ret
    exact ⟨rfl, HB.out⟩
  · go_enter Try.func38, Try.ntmps38
    go_wp2_with (go_at_call 59; refine HC.out.mono ?_; rintro e w1 ⟨rfl, b9⟩; have HB := hd b9; clear b9)
    go_ret
    exact ⟨rfl, HB.out⟩
set_option maxRecDepth 4000 in
theorem cont_node {w : World} {A : Option Addr} {n c : Nat} {fid : FuncId} {bs : Array Value} {rows : Nat → Array Value} {p : Nat → Bool} {E : Bool} (hn : n ≤ 100000) (hR : RowA w A n 4 rows) (hA : Asks w fid bs n rows p) (hE : anyN p n = E) :
    Calls Try.prog 44 #[.slice A n c, .func (.func fid) #[] bs] w (Still (.bool E) w) := by
  obtain ⟨i, hi⟩ : ∃ i, firstI p n = i := ⟨_, rfl⟩
  have HC := hd (idx_node (c := c) hn hR hA hi)
  rw [firstI_any, hi] at hE
  clear hR hA hi
  subst hE
  cases hd0 : decide (0 ≤ i)
  · go_enter Try.func44, Try.ntmps44
    go_wp2_with (go_at_call 68; refine HC.out.mono ?_; rintro e w1 ⟨rfl, b9⟩; have HB := hd b9; clear b9)
    go_ret
    exact ⟨rfl, HB.out⟩
  · go_enter Try.func44, Try.ntmps44
    go_wp2_with (go_at_call 68; refine HC.out.mono ?_; rintro e w1 ⟨rfl, b9⟩; have HB := hd b9; clear b9)
    go_ret
    exact ⟨rfl, HB.out⟩

end Go.Proofs.Ytegaapeaeffgoaa
