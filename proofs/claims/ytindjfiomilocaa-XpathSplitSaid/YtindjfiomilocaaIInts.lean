/- Slices of numbers in memory: what a slice's cells hold, carried over whatever leaves old blocks as they were; rows of the call's own_i. -/
import Derived.Test.YtindjfiomilocaaGMem
import Derived.Test.YtindjfiomilocaaIPath
import Derived.Test.YtindjfiomilocaaPChars
namespace Go.Proofs.Ytindjfiomilocaa
open Go.RowKit
open Go.WideShapes (add_plain)

/-- The slice at A holds the numbers l, below block B. -/
def IL (w : World) (B : Nat) (A : Option Addr) (l : List Int) : Prop :=
  l ≠ [] → ∃ b o, A = some ⟨b, o, none⟩ ∧ b < B ∧ ∀ k, k < l.length → w.cell? ⟨b, o + k, none⟩ = some (.int .i64 (iAt l k))

set_option maxRecDepth 4000 in
theorem IL.keep {w w' : World} {B : Nat} {A : Option Addr} {l : List Int} (h : IL w B A l) (hk : ∀ p : Addr, p.block < B → w'.cell? p = w.cell? p) : IL w' B A l := fun hn => by
  obtain ⟨b, o, e, hb, hc⟩ := h hn
  exact ⟨b, o, e, hb, fun k hkl => (hk _ hb).trans (hc k hkl)⟩
set_option maxRecDepth 4000 in
theorem IL.below {w w' : World} {B : Nat} {A : Option Addr} {l : List Int} (h : IL w B A l) (hb : Below B w w') : IL w' B A l := h.keep fun _ hp => hb.cell hp
set_option maxRecDepth 4000 in
theorem IL.drewN {w : World} {B : Nat} {A : Option Addr} {l : List Int} (h : IL w B A l) (n : Nat) : IL (w.drewN n) B A l := h
set_option maxRecDepth 4000 in
theorem IL.more {w : World} {B B' : Nat} {A : Option Addr} {l : List Int} (h : IL w B A l) (hB : B ≤ B') : IL w B' A l := fun hn => by
  obtain ⟨b, o, e, hb, hc⟩ := h hn
  exact ⟨b, o, e, by omega, hc⟩
set_option maxRecDepth 4000 in
theorem IL.later {w w' : World} {A : Option Addr} {l : List Int} (h : IL w w.heap.size A l) (hb : Below w.heap.size w w') : IL w' w'.heap.size A l := (h.below hb).more hb.size
set_option maxRecDepth 4000 in
theorem IL.at_ {w : World} {B : Nat} {A : Option Addr} {l : List Int} (h : IL w B A l) {k : Nat} (hk : k < l.length) : ∃ b o, A = some ⟨b, o, none⟩ ∧ b < B ∧ w.cell? ⟨b, o + k, none⟩ = some (.int .i64 (iAt l k)) := by
  obtain ⟨b, o, e, hb, hc⟩ := h (by intro e; subst e; simp at hk)
  exact ⟨b, o, e, hb, hc k hk⟩
set_option maxRecDepth 4000 in
theorem IL.nil (w : World) (B : Nat) (A : Option Addr) : IL w B A [] := fun h => absurd rfl h
set_option maxRecDepth 4000 in
theorem IL.take {w : World} {B : Nat} {A : Option Addr} {l : List Int} (h : IL w B A l) (n : Nat) : IL w B A (l.take n) := fun hn => by
  obtain ⟨b, o, e, hb, hc⟩ := h (by rintro rfl; simp at hn)
  refine ⟨b, o, e, hb, fun k hk => ?_⟩
  have hk' : k < n ∧ k < l.length := by rw [List.length_take] at hk; omega
  rw [hc k hk'.2, iAt_eq _ k hk, iAt_eq _ k hk'.2]
  simp

/-- The value v is a row of the call's own_i (blocks from b on), that holds l. -/
def OwnI (w : World) (b : Nat) (v : Value) (l : List Int) : Prop :=
  ∃ (A : Option Addr) (c : Nat), v = .slice A l.length c ∧ l.length ≤ c ∧ c ≤ maxLen ∧ w.ownsRow b 3 1 v l.length (l.map (Value.int .i64))

set_option maxRecDepth 4000 in
theorem OwnI.of_own {w : World} {b n : Nat} {v : Value} {l : List Int} (h : w.ownsRow b 3 1 v n (l.map (Value.int .i64))) (hn : n = l.length) : OwnI w b v l := by
  subst hn
  rcases h.2 with ⟨e, h0⟩ | ⟨g, cap, cur, e, _, _, h3, h4, _⟩
  · exact ⟨none, 0, by rw [e, h0], by omega, by unfold maxLen; omega, h⟩
  · exact ⟨some ⟨g, 0, none⟩, cap, e, h3, h4, h⟩
set_option maxRecDepth 4000 in
theorem OwnI.own {w : World} {b : Nat} {v : Value} {l : List Int} (h : OwnI w b v l) : w.ownsRow b 3 1 v l.length (l.map (Value.int .i64)) := by
  obtain ⟨_, _, _, _, _, h⟩ := h
  exact h
set_option maxRecDepth 4000 in
theorem OwnI.nil (w : World) (b : Nat) : OwnI w b (.slice none 0 0) [] := OwnI.of_own (World.ownsRow_nil w b 3 1) rfl
set_option maxRecDepth 4000 in
theorem OwnI.lt {w : World} {b : Nat} {v : Value} {l : List Int} (h : OwnI w b v l) {j : Nat} (hj : v.ownBlock = some j) : b ≤ j ∧ j < w.heap.size := h.own.lt j hj
set_option maxRecDepth 4000 in
theorem OwnI.below {w w' : World} {b : Nat} {v : Value} {l : List Int} (h : OwnI w b v l) (hb : Below w.heap.size w w') : OwnI w' b v l := by
  obtain ⟨A, c, e, h1, h2, h3⟩ := h
  refine ⟨A, c, e, h1, h2, h3.1, ?_⟩
  rcases h3.2 with h4 | ⟨g, cap, cur, e2, hbg, hg, rest⟩
  · exact .inl h4
  · refine .inr ⟨g, cap, cur, e2, hbg, ?_, rest⟩
    rw [hb.block g (Array.getElem?_eq_some_iff.1 hg).1]
    exact hg
set_option maxRecDepth 4000 in
theorem OwnI.weaken {w : World} {b b' : Nat} {v : Value} {l : List Int} (h : OwnI w b v l) (hb : b' ≤ b) : OwnI w b' v l := by
  obtain ⟨A, c, e, h1, h2, h3⟩ := h
  refine ⟨A, c, e, h1, h2, h3.1, ?_⟩
  rcases h3.2 with h4 | ⟨g, cap, cur, e2, hbg, rest⟩
  · exact .inl h4
  · exact .inr ⟨g, cap, cur, e2, by omega, rest⟩
set_option maxRecDepth 4000 in
theorem OwnI.open_ {w : World} {b : Nat} {v : Value} {l : List Int} (h : OwnI w b v l) : ∃ (A : Option Addr) (c : Nat), v = .slice A l.length c ∧ l.length ≤ c ∧ c ≤ maxLen ∧ IL w w.heap.size A l := by
  obtain ⟨A, c, e, h1, h2, h3⟩ := h
  refine ⟨A, c, e, h1, h2, fun hn => ?_⟩
  have hl : 0 < l.length := List.length_pos_iff.2 hn
  rcases h3.2 with ⟨_, h0⟩ | ⟨g, cap, cur, e2, hbg, hg, _⟩
  · omega
  · have e3 : A = some ⟨g, 0, none⟩ := by
      have := e.symm.trans e2
      injection this
    subst e3
    refine ⟨g, 0, rfl, (Array.getElem?_eq_some_iff.1 hg).1, fun k hk => ?_⟩
    have := h3.cells (g := g) (by rw [e]; rfl) k (.int .i64 (iAt l k)) (by simp [iAt_eq l k hk, hk])
    rwa [add_plain] at this

end Go.Proofs.Ytindjfiomilocaa
