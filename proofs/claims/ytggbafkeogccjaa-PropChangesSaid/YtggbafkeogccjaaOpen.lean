/- An argument that is a list of properties, opened: what its cells hold. -/
import Derived.Test.YtggbafkeogccjaaTells
import Derived.ProofKit
import Derived.Deep.Slices
import Derived.Deep.Fields
namespace Go.Proofs.Ytggbafkeogccjaa
open Go.ChangeShapes Go.WideShapes Go.RowKit Go.Deep

section
variable {H : Type} {enc : TypeId × Value → H} {P : Program} {w : World} {base : Nat} {spare : Nat → Bool} {held : Bool}
theorem open_slice_fields {t e : TypeId} {fs : Array Field} {fuel : Nat} {cs : List Value} {x : DataW H × List MemPlace} (ht : P.underlying t = some (.slice e)) (he : P.underlying e = some (.struct fs))
    (hone : oneCellFields P fs = true) (hC : P.cellsOf e = fs.size) (h : DataW.trod enc P w base spare held fuel t cs = some x) :
    (cs = [.slice none 0 0]) ∨
    ∃ (a : Addr) (len cap : Nat), cs = [.slice (some a) len cap] ∧ len ≤ cap ∧ cap ≤ maxLen ∧
      ∀ i, i < len → ∀ (j : Nat) (f : Field), fs[j]? = some f → ∃ (v : Value) (y : DataW H × List MemPlace) (n : Nat), w.cell? (a.add (i * fs.size + j)) = some v ∧ DataW.trod enc P w base spare held n f.type [v] = some y := by
  rcases open_slice ht h with h0 | ⟨a, len, cap, m, n, D, Pl, hcs, hb, hl, hm, hmm, hx, hi⟩
  · exact .inl h0.1
  · refine .inr ⟨a, len, cap, hcs, hl, hm, fun i him => ?_⟩
    have him' : i < m := by
      rw [hmm]
      split <;> omega
    obtain ⟨cs', hc, ht'⟩ := hi i him'
    rw [hC] at hc
    obtain ⟨ys, n', hn', hy, hlen, hyl, hf⟩ := DataW.trod_struct he ht'
    obtain ⟨_, hcl, hat⟩ := World.cells?_some hc
    intro j f hj
    obtain ⟨ho, hk⟩ := hone_of hone j f hj
    have hjl : j < fs.size := (Array.getElem?_eq_some_iff.1 hj).1
    have hcell := hat j hjl
    have hv : cs'[j]? = some (cs'[j]'(by omega)) := List.getElem?_eq_getElem (by omega)
    have h1 := hf j f hj
    rw [ho, hk] at h1
    have hone' : (cs'.drop j).take 1 = [cs'[j]'(by omega)] := by
      rw [List.drop_eq_getElem_cons (by omega)]
      rfl
    rw [hone'] at h1
    have hys : ys[j]? = some (ys[j]'(by omega)) := List.getElem?_eq_getElem (by omega)
    refine ⟨_, _, n', ?_, h1.trans hys⟩
    rw [← Go.Deep.add_add, hcell, hv]
end

theorem own : ownKnob Try.prog.godebug = none := by kernel_rfl
theorem laidOut : laidOutB Try.prog = true := by kernel_rfl
theorem cells36 : Try.prog.cellsOf 36 = 2 := by kernel_rfl
theorem fields36 : Try.prog.underlying 36 = some (.struct (Try.prog.fieldsOf 36)) := by kernel_rfl
theorem one36 : oneCellFields Try.prog (Try.prog.fieldsOf 36) = true := by kernel_rfl
theorem size36 : (Try.prog.fieldsOf 36).size = 2 := by kernel_rfl
theorem type36_0 : ((Try.prog.fieldsOf 36)[0]?).map (·.type) = some 9 := by kernel_rfl
theorem type36_1 : ((Try.prog.fieldsOf 36)[1]?).map (·.type) = some 9 := by kernel_rfl

theorem cell_lt {w : World} {a : Addr} {v : Value} (h : w.cell? a = some v) : a.block < w.heap.size ∧ a.spot = none := by
  unfold World.cell? at h
  cases hb : w.heap[a.block]? with
  | none => rw [hb] at h; cases h
  | some o =>
    rw [hb] at h
    refine ⟨(Array.getElem?_eq_some_iff.1 hb).1, ?_⟩
    cases o <;> simp at h
    exact h.1

/-- A list of properties that came in. -/
theorem open_props {H : Type} {enc : TypeId × Value → H} {W : World} {r : Reach} {b0 base : Nat} {sp : Nat → Bool} {held : Bool} {v : Value} {d : DataW H} {p : List MemPlace} (hv : Value.okWide Try.prog W r b0 22 v)
    (h : DataW.Trod enc Try.prog W base sp held 22 v d p) : ∃ (A : Option Addr) (l : List Pr) (cap : Nat), v = .slice A l.length cap ∧ Wide l ∧ PL W W.heap.size A l := by
  obtain ⟨a0, len0, cap0, rfl⟩ := okWide_slice Try.underlying22 hv
  obtain ⟨fuel, hf⟩ := h
  rcases open_slice_fields Try.underlying22 fields36 one36 (cells36.trans size36.symm) hf with hcs | ⟨a, len, cap, hcs, hl, hm, hi⟩
  · simp [Value.cells] at hcs
    obtain ⟨rfl, rfl, rfl⟩ := hcs
    exact ⟨none, [], 0, rfl, ⟨by decide, by simp⟩, PL.nil _ _ _⟩
  · simp [Value.cells] at hcs
    obtain ⟨rfl, rfl, rfl⟩ := hcs
    have key : ∀ i, i < len0 → ∃ q : Pr, q.1.size ≤ maxLen ∧ q.2.size ≤ maxLen ∧ W.cell? (a.add (i * 2)) = some (.string q.1) ∧ W.cell? (a.add (i * 2 + 1)) = some (.string q.2) := by
      intro i him
      obtain ⟨f0, hf0, ht0⟩ := Option.map_eq_some_iff.1 type36_0
      obtain ⟨f1, hf1, ht1⟩ := Option.map_eq_some_iff.1 type36_1
      obtain ⟨v0, y0, n0, c0, r0⟩ := hi i him 0 f0 hf0
      obtain ⟨v1, y1, n1, c1, r1⟩ := hi i him 1 f1 hf1
      rw [size36] at c0 c1
      rw [ht0] at r0
      rw [ht1] at r1
      obtain ⟨s0, e0, _, w0⟩ := DataW.trod_string Try.underlying9 r0
      obtain ⟨s1, e1, _, w1⟩ := DataW.trod_string Try.underlying9 r1
      simp at e0 e1
      subst e0 e1
      exact ⟨(s0, s1), w0, w1, c0, c1⟩
    obtain ⟨q, hq⟩ := choose_lt key
    have hlen : ((List.range len0).map q).length = len0 := by simp
    have hget : ∀ k, k < len0 → prAt ((List.range len0).map q) k = q k := fun k hk => by
      rw [prAt_eq _ k (by simpa using hk)]; simp
    refine ⟨some a, (List.range len0).map q, cap0, by rw [hlen], ⟨by rw [hlen]; unfold maxLen at hm; omega, fun p hp => ?_⟩, fun hn => ?_⟩
    · obtain ⟨k, hk, rfl⟩ := List.mem_map.1 hp
      have := hq k (List.mem_range.1 hk)
      unfold maxLen at this
      omega
    · have h0 : 0 < len0 := by
        rcases Nat.eq_zero_or_pos len0 with h | h
        · subst h; exact absurd rfl hn
        · exact h
      have hc := (hq 0 h0).2.2.1
      have hs := cell_lt hc
      simp only [Nat.zero_mul, Addr.add, if_true] at hs
      obtain ⟨b, o, s⟩ := a
      obtain rfl : s = none := hs.2
      refine ⟨b, o, rfl, hs.1, fun k hk => ?_⟩
      rw [hlen] at hk
      rw [hget k hk]
      have h1 := (hq k hk).2.2.1
      have h2 := (hq k hk).2.2.2
      rw [add_plain] at h1 h2
      exact ⟨h1, h2⟩

end Go.Proofs.Ytggbafkeogccjaa
