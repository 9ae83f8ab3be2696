/- A region that draws its order and holds calls that make memory, but leave all that was there: one walk in the order of the text, in whatever later world. Same, by a closure that calls itself, and the document's. Same: the closure that calls itself, and the call. -/
import Derived.Test.YtjolmnghoigggaaNCheck
import Derived.BigQuiet
namespace Go.Proofs.Ytjolmnghoigggaa
open Go.RowKit

/-- The worlds that keep what lies below N as it is in w. -/
def Later (N : Nat) (w : World) : Type := { w' : World // Below N w w' }
instance (N : Nat) (w : World) : Nonempty (Later N w) := ⟨⟨w, Below.refl N w⟩⟩
set_option maxRecDepth 4000 in
theorem wp_region_later (N : Nat) {id : Nat} {Q : Exit → Act → World → Prop} {a : Act} {w : World} {l : List Oper} (hm : Try.prog.follows .mixedOrders = true) (hB : Region.lexB .any l.toArray = true)
    (h : wpQuiet Try.prog l.toArray (fun w' => ∃ u : Later N w, w' = u.1) (fun a' => ∀ w', (∃ u : Later N w, w' = u.1) → Q .normal a' w') l a) : (Code.region id l.toArray true).wp Try.prog Q a w :=
  wp_region_quiet (C := fun w' => ∃ u : Later N w, w' = u.1) hm hB ⟨⟨_, (Below.refl N w).drew⟩, rfl⟩ (by simpa using h)
set_option maxRecDepth 4000 in
theorem cell_in {w : World} {a : Addr} {v : Value} (h : w.cell? a = some v) : a.block < w.heap.size := by
  unfold World.cell? at h
  cases hb : w.heap[a.block]? with
  | none => rw [hb] at h; cases h
  | some o => exact (Array.getElem?_eq_some_iff.1 hb).1
set_option maxRecDepth 4000 in
theorem later_cell {w : World} {p : Addr} {v : Value} (h : w.cell? p = some v) : ∀ u : Later w.heap.size w, u.1.cell? p = some v := fun u => (u.2.cell (cell_in h)).trans h
set_option maxRecDepth 4000 in
theorem later_in {f : FuncId} {args : Array Value} {v : Value} {N : Nat} {w : World} {u : Later N w} (hN : N ≤ w.heap.size) (h : Calls Try.prog f args u.1 (Still v u.1)) :
    Calls Try.prog f args u.1 fun e w'' => e = .returned v ∧ ∃ u' : Later N w, w'' = u'.1 :=
  h.mono fun _ w'' ⟨he, hb⟩ => ⟨he, ⟨w'', u.2.trans (hb.mono (Nat.le_trans hN u.2.size))⟩, rfl⟩

end Go.Proofs.Ytjolmnghoigggaa

namespace Go.Proofs.Ytjolmnghoigggaa
open Go.RowKit

/-- Are two nodes the same, whatever their Kids are? -/
def sameO (lf : Bool) (ps : List Pr) (tx : List Int) (nk : Nat) (lf' : Bool) (ps' : List Pr) (tx' : List Int) (nk' : Nat) : Bool := decide (lf = lf' ∧ nk = nk' ∧ ps = ps' ∧ tx = tx')
set_option maxRecDepth 4000 in
theorem sameO_no {lf : Bool} {ps : List Pr} {tx : List Int} {nk : Nat} {lf' : Bool} {ps' : List Pr} {tx' : List Int} {nk' : Nat} (h : ¬ (lf = lf' ∧ nk = nk' ∧ ps = ps' ∧ tx = tx')) : sameO lf ps tx nk lf' ps' tx' nk' = false := decide_eq_false h
set_option maxRecDepth 4000 in
theorem sameO_yes {lf : Bool} {ps : List Pr} {tx : List Int} {nk : Nat} : sameO lf ps tx nk lf ps tx nk = true := decide_eq_true ⟨rfl, rfl, rfl, rfl⟩

set_option maxRecDepth 4000 in
/-- Two nodes in variables of the call's own, behind a call that leaves them. -/
theorem box8 {w w' : World} {a b c d a' b' c' d' : Value} {t t' : TypeId} (hb : Below ((w.alloc (.cells #[a, b, c, d] t)).alloc (.cells #[a', b', c', d'] t')).heap.size ((w.alloc (.cells #[a, b, c, d] t)).alloc (.cells #[a', b', c', d'] t')) w') :
    (w'.cell? ⟨w.heap.size, 0, none⟩ = some a ∧ w'.cell? ⟨w.heap.size, 1, none⟩ = some b ∧ w'.cell? ⟨w.heap.size, 2, none⟩ = some c ∧ w'.cell? ⟨w.heap.size, 3, none⟩ = some d) ∧
    (w'.cell? ⟨w.heap.size + 1, 0, none⟩ = some a' ∧ w'.cell? ⟨w.heap.size + 1, 1, none⟩ = some b' ∧ w'.cell? ⟨w.heap.size + 1, 2, none⟩ = some c' ∧ w'.cell? ⟨w.heap.size + 1, 3, none⟩ = some d') ∧ w.heap.size + 1 < w'.heap.size := by
  refine ⟨⟨?_, ?_, ?_, ?_⟩, ⟨?_, ?_, ?_, ?_⟩, by have := hb.size; simp at this; omega⟩
  all_goals first
    | (rw [hb.cell (by simp; omega), World.cell?_alloc_lt _ _ _ (by simp), World.cell?_alloc_at _ _ _ _ rfl]; rfl)
    | (rw [hb.cell (by simp), World.cell?_alloc_at _ _ _ _ (by simp)]; rfl)

set_option maxRecDepth 4000 in
/-- The Kids from k on are the same. -/
theorem eqT_one {lf : Bool} {ps : List Pr} {tx : List Int} {ks : List NT} {lf' : Bool} {ps' : List Pr} {tx' : List Int} {ks' : List NT} (h : sameO lf ps tx ks.length lf' ps' tx' ks'.length = false) : eqT (.mk lf ps tx ks) (.mk lf' ps' tx' ks') = false := by
  apply eqT_no
  intro e
  injection e with e1 e2 e3 e4
  subst e1 e2 e3 e4
  rw [sameO_yes] at h
  cases h
set_option maxRecDepth 4000 in
theorem eqT_kid {lf : Bool} {ps : List Pr} {tx : List Int} {ks : List NT} {lf' : Bool} {ps' : List Pr} {tx' : List Int} {ks' : List NT} {k : Nat} {m m' : NT} (h : ks[k]? = some m) (h' : ks'[k]? = some m') (hn : eqT m m' = false) : eqT (.mk lf ps tx ks) (.mk lf' ps' tx' ks') = false := by
  apply eqT_no
  intro e
  injection e with e1 e2 e3 e4
  subst e4
  rw [h] at h'
  injection h' with h'
  subst h'
  rw [eqT_self] at hn
  cases hn
set_option maxRecDepth 4000 in
theorem eqT_true {a b : NT} (h : eqT a b = true) : a = b := by
  rcases Classical.em (a = b) with h1 | h1
  · exact h1
  · rw [eqT_no h1] at h; cases h
set_option maxRecDepth 4000 in
theorem eqT_all {lf : Bool} {ps : List Pr} {tx : List Int} {ks : List NT} {lf' : Bool} {ps' : List Pr} {tx' : List Int} {ks' : List NT} (h : sameO lf ps tx ks.length lf' ps' tx' ks'.length = true) (ha : ∀ j, j < ks.length → ks[j]? = ks'[j]?) : eqT (.mk lf ps tx ks) (.mk lf' ps' tx' ks') = true := by
  have h1 := of_decide_eq_true h
  obtain ⟨rfl, hl, rfl, rfl⟩ := h1
  apply eqT_yes
  congr 1
  apply List.ext_getElem?
  intro i
  by_cases hi : i < ks.length
  · exact ha i hi
  · rw [List.getElem?_eq_none (by omega), List.getElem?_eq_none (by omega)]

end Go.Proofs.Ytjolmnghoigggaa

namespace Go.Proofs.Ytjolmnghoigggaa
open Go.RowKit

theorem below_mono2 {w w' : World} {o o' : Obj} {B : Nat} (h : Below B w w') (hB : B ≤ w'.heap.size) : Below B w ((w'.alloc o).alloc o') := (h.alloc hB o).alloc (by simp; omega) o'

end Go.Proofs.Ytjolmnghoigggaa
