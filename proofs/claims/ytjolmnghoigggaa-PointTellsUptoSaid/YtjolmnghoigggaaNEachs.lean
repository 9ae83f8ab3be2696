/- each: a closure that calls itself goes through a tree; the visit by its contract. each, called with a visit. Size: a visit that counts in a captured variable; the document's Size, that calls itself. -/
import Derived.Test.YtjolmnghoigggaaNOne
import Derived.Shelf.Abstract
namespace Go.Proofs.Ytjolmnghoigggaa
open Go.RowKit

/-- What a visit may change of what is there: block g, and block O, which it may leave for a new one, O'. -/
structure Eff (g : Nat) (O O' : Option Nat) (w w' : World) : Prop where
  below : Below g w w'
  size : w.heap.size ≤ w'.heap.size
  cell : ∀ p : Addr, p.block < w.heap.size → p.block ≠ g → some p.block ≠ O → w'.cell? p = w.cell? p
  own : O' = O ∨ ∃ j, O' = some j ∧ w.heap.size ≤ j
set_option maxRecDepth 4000 in
theorem Eff.refl (g : Nat) (O : Option Nat) (w : World) : Eff g O O w w := ⟨Below.refl _ _, Nat.le_refl _, fun _ _ _ _ => rfl, .inl rfl⟩
set_option maxRecDepth 4000 in
theorem Eff.trans {g : Nat} {O O' O'' : Option Nat} {w w' w'' : World} (h : Eff g O O' w w') (h' : Eff g O' O'' w' w'') : Eff g O O'' w w'' :=
  ⟨h.below.trans h'.below, Nat.le_trans h.size h'.size, fun p hp hg hO => by
    have hs := h.size
    rw [h'.cell p (by omega) hg (by
      rcases h.own with e | ⟨j, e, hj⟩
      · rw [e]; exact hO
      · rw [e]; intro e2; injection e2 with e2; omega)]
    exact h.cell p hp hg hO, by
    have hs := h.size
    rcases h'.own with e | ⟨j, e, hj⟩
    · rw [e]; exact h.own
    · exact .inr ⟨j, e, by omega⟩⟩
set_option maxRecDepth 4000 in
theorem Eff.alloc {g : Nat} {O O' : Option Nat} {w w' : World} (h : Eff g O O' w w') (hg : g ≤ w'.heap.size) (o : Obj) : Eff g O O' w (w'.alloc o) :=
  ⟨h.below.alloc hg o, by have := h.size; simp; omega, fun p hp hg hO => by
    have hs := h.size
    rw [World.cell?_alloc_lt _ _ p (by omega)]; exact h.cell p hp hg hO, h.own⟩

/-- What a visit leaves. -/
def Did {σ : Type} (g : Nat) (Q : σ → Option Nat → World → Prop) (O : Option Nat) (r : Bool × σ) (w : World) (e : Ending) (w' : World) : Prop :=
  e = .returned (.bool r.1) ∧ ∃ O', Q r.2 O' w' ∧ Eff g O O' w w'
/-- What a visit does; N: from where on its own block lies. -/
structure Visit {σ : Type} (fv : FuncId) (g N : Nat) (step : σ → NT → Bool × σ) (Q : σ → Option Nat → World → Prop) (pre : σ → NT → Prop) (preK : σ → List NT → Prop) : Prop where
  enters : ∀ args w, (callFunc fv args).run Try.prog w = .ok (.enter fv args) w
  valid : ∀ s O w, Q s O w → ∀ j, O = some j → N ≤ j ∧ j < w.heap.size
  later : ∀ s O w o, N ≤ w.heap.size → Q s O w → Q s O (w.alloc o)
  kids : ∀ s lf ps tx ks, pre s (.mk lf ps tx ks) → (step s (.mk lf ps tx ks)).1 = true → preK (step s (.mk lf ps tx ks)).2 ks
  next : ∀ s m r, preK s (m :: r) → pre s m ∧ ((walkT step s m).1 = true → preK (walkT step s m).2 r)
  does : ∀ d w v n s O, pre s n → Q s O w → N ≤ w.heap.size → NodeAt d w g v n → Calls Try.prog fv #[v, .pointer (some ⟨g, 0, none⟩)] w (Did g Q O (step s n) w)

set_option maxRecDepth 4000 in
theorem did_ret {σ : Type} {g : Nat} {Q : σ → Option Nat → World → Prop} {r : Bool × σ} {b : Bool} {s : σ} {O O' : Option Nat} {w w' : World} (h : r = (b, s)) (hq : Q s O' w') (ha : Eff g O O' w w') : Did g Q O r w (.returned (.bool b)) w' := by
  subst h; exact ⟨rfl, O', hq, ha⟩

set_option maxRecDepth 4000 in
/-- A node in a variable of the call's own, behind a visit that leaves it. -/
theorem box4e {g : Nat} {O O' : Option Nat} {w w' : World} {a b c d : Value} {t : TypeId} (hg : g < w.heap.size) (hO : ∀ j, O = some j → j < w.heap.size) (hb : Eff g O O' (w.alloc (.cells #[a, b, c, d] t)) w') :
    w'.cell? ⟨w.heap.size, 0, none⟩ = some a ∧ w'.cell? ⟨w.heap.size, 1, none⟩ = some b ∧ w'.cell? ⟨w.heap.size, 2, none⟩ = some c ∧ w'.cell? ⟨w.heap.size, 3, none⟩ = some d := by
  refine ⟨?_, ?_, ?_, ?_⟩ <;> (rw [hb.cell _ (by simp) (by simp; omega) (by intro e; have := hO _ e.symm; simp at this), World.cell?_alloc_at _ _ _ _ rfl]; rfl)

end Go.Proofs.Ytjolmnghoigggaa

namespace Go.Proofs.Ytjolmnghoigggaa
open Go.RowKit

/-- What a call of 'each' leaves: the visit's state behind the walk. -/
def Gone {σ : Type} (g : Nat) (Q : σ → Option Nat → World → Prop) (s : σ) (w : World) (e : Ending) (w' : World) : Prop :=
  e = .returned (.tuple #[]) ∧ ∃ O', Q s O' w' ∧ Below g w w'

end Go.Proofs.Ytjolmnghoigggaa

namespace Go.Proofs.Ytjolmnghoigggaa
open Go.RowKit

/-- Block g is a variable that holds u. -/
def One (t : TypeId) (g : Nat) (u : Value) (w : World) : Prop := w.heap[g]? = some (.cells #[u] t (0, 0))
set_option maxRecDepth 4000 in
theorem One.alloc {t : TypeId} {g : Nat} {u : Value} {w : World} (h : One t g u w) (o : Obj) : One t g u (w.alloc o) := (Below.heap_alloc w o g (lt_of_block h)).trans h
set_option maxRecDepth 4000 in
theorem One.new (t : TypeId) (u : Value) (w : World) : One t w.heap.size u (w.alloc (.cells #[u] t (0, 0))) := by
  show (w.heap.push _)[w.heap.size]? = _
  simp
set_option maxRecDepth 4000 in
theorem One.set {t : TypeId} {g : Nat} {u : Value} {w : World} (h : One t g u w) (x : Value) : One t g x (w.setCell ⟨g, 0, none⟩ x) := one_setCell h
set_option maxRecDepth 4000 in
theorem Eff.setCell {g : Nat} {O O' : Option Nat} {w w' : World} (h : Eff g O O' w w') (x : Value) : Eff g O O' w (w'.setCell ⟨g, 0, none⟩ x) :=
  ⟨h.below.setCell (Nat.le_refl _) x, by have := h.size; simp; omega, fun p hp hg hO => by
    rw [World.cell?_setCell_other _ _ _ _ (by intro e; exact hg (by rw [← e]))]; exact h.cell p hp hg hO, h.own⟩

set_option maxRecDepth 4000 in
theorem wrap_in (a : Int) : -9223372036854775808 ≤ wrap64 a ∧ wrap64 a ≤ 9223372036854775807 := by unfold wrap64; omega
/-- The counter's state. -/
def QS (g : Nat) (z : Int) (O : Option Nat) (w : World) : Prop := O = none ∧ (-9223372036854775808 ≤ z ∧ z ≤ 9223372036854775807) ∧ One 3 g (.int .i64 z) w

set_option maxRecDepth 4000 in
theorem size_start (ks : List NT) {n : Nat} (h : n ≤ 9223372036854775806) : (1 + (n : Int)) = wrap64 (1 + n + sizeK (ks.take 0)) := by
  have e : sizeK (ks.take 0) = 0 := by simp [sizeK]
  rw [e, wrap_id] <;> omega

end Go.Proofs.Ytjolmnghoigggaa
