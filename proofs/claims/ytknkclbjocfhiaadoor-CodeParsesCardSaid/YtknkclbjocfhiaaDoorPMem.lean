/- Lists of properties in memory: what a slice's cells hold, carried over whatever leaves old blocks as they were. -/
import Derived.Test.YtknkclbjocfhiaaDoorPSpec
import Derived.Test.YtknkclbjocfhiaaDoorGMem
import Derived.Deep.Draws
namespace Go.Proofs.YtknkclbjocfhiaaDoor
open Go.RowKit

/-- The slice at A holds the properties l, below block B. -/
def PL (w : World) (B : Nat) (A : Option Addr) (l : List Pr) : Prop :=
  l ≠ [] → ∃ b o, A = some ⟨b, o, none⟩ ∧ b < B ∧ ∀ k, k < l.length → w.cell? ⟨b, o + k * 2, none⟩ = some (.string (prAt l k).1) ∧ w.cell? ⟨b, o + k * 2 + 1, none⟩ = some (.string (prAt l k).2)

set_option maxRecDepth 4000 in
theorem PL.keep {w w' : World} {B : Nat} {A : Option Addr} {l : List Pr} (h : PL w B A l) (hk : ∀ p : Addr, p.block < B → w'.cell? p = w.cell? p) : PL w' B A l := fun hn => by
  obtain ⟨b, o, e, hb, hc⟩ := h hn
  exact ⟨b, o, e, hb, fun k hkl => ⟨(hk _ hb).trans (hc k hkl).1, (hk _ hb).trans (hc k hkl).2⟩⟩
set_option maxRecDepth 4000 in
theorem PL.below {w w' : World} {B : Nat} {A : Option Addr} {l : List Pr} (h : PL w B A l) (hb : Below B w w') : PL w' B A l := h.keep fun _ hp => hb.cell hp
set_option maxRecDepth 4000 in
theorem PL.more {w : World} {B B' : Nat} {A : Option Addr} {l : List Pr} (h : PL w B A l) (hB : B ≤ B') : PL w B' A l := fun hn => by
  obtain ⟨b, o, e, hb, hc⟩ := h hn
  exact ⟨b, o, e, by omega, hc⟩
set_option maxRecDepth 4000 in
theorem PL.at_ {w : World} {B : Nat} {A : Option Addr} {l : List Pr} (h : PL w B A l) {k : Nat} (hk : k < l.length) : ∃ b o, A = some ⟨b, o, none⟩ ∧ b < B ∧ w.cell? ⟨b, o + k * 2, none⟩ = some (.string (prAt l k).1) ∧ w.cell? ⟨b, o + k * 2 + 1, none⟩ = some (.string (prAt l k).2) := by
  obtain ⟨b, o, e, hb, hc⟩ := h (by intro e; subst e; simp at hk)
  exact ⟨b, o, e, hb, (hc k hk).1, (hc k hk).2⟩
set_option maxRecDepth 4000 in
theorem PL.nil (w : World) (B : Nat) (A : Option Addr) : PL w B A [] := fun h => absurd rfl h

set_option maxRecDepth 4000 in
theorem prAt_eq (l : List Pr) (k : Nat) (hk : k < l.length) : prAt l k = l[k] := by
  unfold prAt; rw [List.getD_eq_getElem?_getD, List.getElem?_eq_getElem hk]; rfl

/-- The texts of a list are no longer than a length can be. -/
def Wide (l : List Pr) : Prop := l.length ≤ 9223372036854775807 ∧ ∀ p ∈ l, p.1.size ≤ 9223372036854775807 ∧ p.2.size ≤ 9223372036854775807
set_option maxRecDepth 4000 in
theorem Wide.at_ {l : List Pr} (h : Wide l) {k : Nat} (hk : k < l.length) : (prAt l k).1.size ≤ 9223372036854775807 ∧ (prAt l k).2.size ≤ 9223372036854775807 := by
  rw [prAt_eq l k hk]; exact h.2 _ (List.getElem_mem hk)

end Go.Proofs.YtknkclbjocfhiaaDoor
