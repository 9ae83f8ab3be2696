/- spoil writes into a tree's own blocks alone. -/
import Derived.Test.YtkbggbkcchndeaaNFresh
namespace Go.Proofs.Ytkbggbkcchndeaa
open Go.RowKit

/-- Two cells of one kind. -/
def Like (x y : Option Value) : Prop := x = y ∨ (∃ a b, x = some (.string a) ∧ y = some (.string b)) ∨ (∃ a b, x = some (.int .i32 a) ∧ y = some (.int .i32 b)) ∨ (∃ a b, x = some (.bool a) ∧ y = some (.bool b))
theorem Like.trans {x y z : Option Value} (h : Like x y) (h' : Like y z) : Like x z := by
  rcases h with rfl | ⟨a, b, rfl, rfl⟩ | ⟨a, b, rfl, rfl⟩ | ⟨a, b, rfl, rfl⟩
  · exact h'
  · rcases h' with rfl | ⟨c, d, e, rfl⟩ | ⟨c, d, e, rfl⟩ | ⟨c, d, e, rfl⟩
    · exact .inr (.inl ⟨a, b, rfl, rfl⟩)
    · exact .inr (.inl ⟨a, d, rfl, rfl⟩)
    · cases e
    · cases e
  · rcases h' with rfl | ⟨c, d, e, rfl⟩ | ⟨c, d, e, rfl⟩ | ⟨c, d, e, rfl⟩
    · exact .inr (.inr (.inl ⟨a, b, rfl, rfl⟩))
    · cases e
    · exact .inr (.inr (.inl ⟨a, d, rfl, rfl⟩))
    · cases e
  · rcases h' with rfl | ⟨c, d, e, rfl⟩ | ⟨c, d, e, rfl⟩ | ⟨c, d, e, rfl⟩
    · exact .inr (.inr (.inr ⟨a, b, rfl, rfl⟩))
    · cases e
    · cases e
    · exact .inr (.inr (.inr ⟨a, d, rfl, rfl⟩))
/-- Nothing has turned but cells in blocks from lo on below hi, and these keep their kinds. -/
structure Spoilt (lo hi : Nat) (w w' : World) : Prop where
  below : Below lo w w'
  size : w.heap.size ≤ w'.heap.size
  cell : ∀ p : Addr, p.block < w.heap.size → ¬ (lo ≤ p.block ∧ p.block < hi) → w'.cell? p = w.cell? p
  kind : ∀ p : Addr, lo ≤ p.block ∧ p.block < hi → Like (w.cell? p) (w'.cell? p) ∧ w'.frozen? p = w.frozen? p
theorem Spoilt.refl (lo hi : Nat) (w : World) : Spoilt lo hi w w := ⟨Below.refl _ _, Nat.le_refl _, fun _ _ _ => rfl, fun _ _ => ⟨.inl rfl, rfl⟩⟩
theorem Spoilt.trans {lo hi : Nat} {w w' w'' : World} (h : Spoilt lo hi w w') (h' : Spoilt lo hi w' w'') : Spoilt lo hi w w'' :=
  ⟨h.below.trans h'.below, Nat.le_trans h.size h'.size, fun p hp hn => (h'.cell p (Nat.lt_of_lt_of_le hp h.size) hn).trans (h.cell p hp hn), fun p hp => ⟨(h.kind p hp).1.trans (h'.kind p hp).1, (h'.kind p hp).2.trans (h.kind p hp).2⟩⟩
theorem Spoilt.alloc {lo hi : Nat} {w w' : World} (h : Spoilt lo hi w w') (hl : lo ≤ w'.heap.size) (hh : hi ≤ w'.heap.size) (o : Obj) : Spoilt lo hi w (w'.alloc o) :=
  ⟨h.below.alloc hl o, by have := h.size; simp; omega, fun p hp hn => by
    have := h.size
    rw [World.cell?_alloc_lt _ _ p (by omega)]; exact h.cell p hp hn, fun p hp => by
    have hb : (w'.alloc o).heap[p.block]? = w'.heap[p.block]? := Below.heap_alloc _ _ _ (by omega)
    rw [World.cell?_of_block hb, World.frozen?_of_block hb]; exact h.kind p hp⟩
theorem Spoilt.drew {lo hi : Nat} {w w' : World} (h : Spoilt lo hi w w') : Spoilt lo hi w w'.drew := ⟨h.below.drew, h.size, h.cell, h.kind⟩
theorem Spoilt.setCell {lo hi : Nat} {w w' : World} (h : Spoilt lo hi w w') {q : Addr} {x y : Value} (hq : lo ≤ q.block ∧ q.block < hi) (hc : w'.cell? q = some x) (hk : Like (some x) (some y)) : Spoilt lo hi w (w'.setCell q y) :=
  ⟨h.below.setCell hq.1 y, by have := h.size; simp; omega, fun p hp hn => by
    rw [World.cell?_setCell_other _ _ _ _ (by rintro rfl; exact hn hq)]; exact h.cell p hp hn, fun p hp => by
    have hf : (w'.setCell q y).frozen? p = w'.frozen? p := by simp
    refine ⟨?_, hf.trans (h.kind p hp).2⟩
    by_cases e : q = p
    · subst e
      rw [World.cell?_setCell_same _ _ _ hc]
      have := (h.kind q hp).1
      rw [hc] at this
      exact this.trans hk
    · rw [World.cell?_setCell_other _ _ _ _ e]; exact (h.kind p hp).1⟩

/-- The value v is a node, as far as its slices, all of it in blocks from lo on below hi, all of whose cells may be written. -/
def Shape (lo hi : Nat) : Nat → World → Value → Prop
  | 0, _, _ => False
  | d + 1, w, v => ∃ lf PA np pc TA nt tc KA nk kc, v = .agg #[.bool lf, .slice PA np pc, .slice TA nt tc, .slice KA nk kc] ∧ (np ≤ 4398046511104 ∧ nt ≤ 35184372088832 ∧ nk ≤ 1759218604441) ∧
      (∀ k, k < np → ∃ b o s, PA = some ⟨b, o, none⟩ ∧ (lo ≤ b ∧ b < hi) ∧ Free w b (o + k * 2 + 1) (.string s)) ∧
      (∀ k, k < nt → ∃ b o z, TA = some ⟨b, o, none⟩ ∧ (lo ≤ b ∧ b < hi) ∧ Free w b (o + k) (.int .i32 z)) ∧
      (∀ k, k < nk → ∃ b o u, KA = some ⟨b, o, none⟩ ∧ (lo ≤ b ∧ b < hi) ∧ Shape lo hi d w u ∧ Cells4 w b (o + k * 4) u ∧ w.frozen? ⟨b, o + k * 4, none⟩ = false)
theorem Like.string {x : Option Value} {s : ByteArray} (h : Like (some (.string s)) x) : ∃ t, x = some (.string t) := by
  rcases h with e | ⟨a, b, e, f⟩ | ⟨a, b, e, f⟩ | ⟨a, b, e, f⟩
  · exact ⟨s, e.symm⟩
  · exact ⟨b, f⟩
  · cases e
  · cases e
theorem Like.rune {x : Option Value} {z : Int} (h : Like (some (.int .i32 z)) x) : ∃ t, x = some (.int .i32 t) := by
  rcases h with e | ⟨a, b, e, f⟩ | ⟨a, b, e, f⟩ | ⟨a, b, e, f⟩
  · exact ⟨z, e.symm⟩
  · cases e
  · exact ⟨b, f⟩
  · cases e
theorem Like.bool {x : Option Value} {z : Bool} (h : Like (some (.bool z)) x) : ∃ t, x = some (.bool t) := by
  rcases h with e | ⟨a, b, e, f⟩ | ⟨a, b, e, f⟩ | ⟨a, b, e, f⟩
  · exact ⟨z, e.symm⟩
  · cases e
  · cases e
  · exact ⟨b, f⟩
theorem Like.slice {x : Option Value} {A : Option Addr} {n c : Nat} (h : Like (some (.slice A n c)) x) : x = some (.slice A n c) := by
  rcases h with e | ⟨a, b, e, f⟩ | ⟨a, b, e, f⟩ | ⟨a, b, e, f⟩
  · exact e.symm
  · cases e
  · cases e
  · cases e
theorem Shape.keep {lo hi : Nat} {w w' : World} (h : Spoilt lo hi w w') : ∀ {d : Nat} {v : Value}, Shape lo hi d w v → Shape lo hi d w' v
  | 0, _, hs => hs
  | d + 1, _, ⟨lf, PA, np, pc, TA, nt, tc, KA, nk, kc, e, hn, hp, ht, hk⟩ => by
    refine ⟨lf, PA, np, pc, TA, nt, tc, KA, nk, kc, e, hn, fun k hkn => ?_, fun k hkn => ?_, fun k hkn => ?_⟩
    · obtain ⟨b, o, s, e1, hb, hc, hz⟩ := hp k hkn
      have := h.kind ⟨b, o + k * 2 + 1, none⟩ hb
      rw [hc] at this
      obtain ⟨t, ht⟩ := this.1.string
      exact ⟨b, o, t, e1, hb, ht, this.2.trans hz⟩
    · obtain ⟨b, o, s, e1, hb, hc, hz⟩ := ht k hkn
      have := h.kind ⟨b, o + k, none⟩ hb
      rw [hc] at this
      obtain ⟨t, ht⟩ := this.1.rune
      exact ⟨b, o, t, e1, hb, ht, this.2.trans hz⟩
    · obtain ⟨b, o, u, e1, hb, hs, ⟨c0, c1, c2, c3, eu, a0, a1, a2, a3⟩, hz⟩ := hk k hkn
      cases d with
      | zero => exact hs.elim
      | succ d =>
        have hs2 := hs
        obtain ⟨lf', PA', np', pc', TA', nt', tc', KA', nk', kc', e', hn', hp', ht', hk'⟩ := hs
        rw [eu] at e'
        simp only [Value.agg.injEq, Array.mk.injEq, List.cons.injEq, and_true] at e'
        obtain ⟨rfl, rfl, rfl, rfl⟩ := e'
        have k0 := h.kind ⟨b, o + k * 4, none⟩ hb
        have k1 := h.kind ⟨b, o + k * 4 + 1, none⟩ hb
        have k2 := h.kind ⟨b, o + k * 4 + 2, none⟩ hb
        have k3 := h.kind ⟨b, o + k * 4 + 3, none⟩ hb
        rw [a0] at k0
        rw [a1] at k1
        rw [a2] at k2
        rw [a3] at k3
        obtain ⟨q, hq⟩ := k0.1.bool
        refine ⟨b, o, .agg #[.bool q, .slice PA' np' pc', .slice TA' nt' tc', .slice KA' nk' kc'], e1, hb, Shape.keep h (v := .agg #[.bool q, .slice PA' np' pc', .slice TA' nt' tc', .slice KA' nk' kc']) ⟨q, PA', np', pc', TA', nt', tc', KA', nk', kc', rfl, hn', hp', ht', hk'⟩, ⟨_, _, _, _, rfl, hq, k1.1.slice, k2.1.slice, k3.1.slice⟩, k0.2.trans hz⟩
theorem TreeP.shape {lo hi : Nat} {w : World} : ∀ {d : Nat} {v : Value} {n : NT}, TreeP (fun b => lo ≤ b ∧ b < hi) d w v n → Shape lo hi d w v
  | 0, _, _, h => h.elim
  | d + 1, _, _, ⟨PA, pc, TA, tc, KA, kc, e, hp, ht, hf, hks⟩ => ⟨_, _, _, _, _, _, _, _, _, _, e, ⟨hf.2.1, hf.2.2.1, hf.2.2.2⟩, fun k hk => by
      obtain ⟨b, o, e1, hb, h1⟩ := hp (k * 2 + 1) _ (pv_at _ k hk).2
      exact ⟨b, o, _, e1, hb, by rw [Nat.add_assoc]; exact h1⟩, fun k hk => by
      obtain ⟨b, o, e1, hb, h1⟩ := ht k _ (rv_at _ k hk)
      exact ⟨b, o, _, e1, hb, h1⟩, fun k hk => by
      obtain ⟨b, o, u, e1, hb, hn, hc, hz⟩ := hks k _ (List.getElem?_eq_getElem hk)
      exact ⟨b, o, u, e1, hb, hn.shape, hc, hz⟩⟩

end Go.Proofs.Ytkbggbkcchndeaa
