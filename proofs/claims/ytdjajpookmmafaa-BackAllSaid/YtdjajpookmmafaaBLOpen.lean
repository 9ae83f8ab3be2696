/- An argument that is a list of operations, opened. -/
import Derived.Test.YtdjajpookmmafaaBOpen
import Derived.Test.YtdjajpookmmafaaBList
namespace Go.Proofs.Ytdjajpookmmafaa
open Go.ChangeShapes Go.WideShapes Go.RowKit Go.Deep

section
variable {H : Type} {enc : TypeId × Value → H} {W : World} {base : Nat} {held : Bool}
set_option maxRecDepth 4000 in
theorem ops_full {fuel : Nat} {cs : List Value} {x : DataW H × List MemPlace} (h : DataW.trod enc Try.prog W base (fun _ => true) held fuel 43 cs = some x) (hw : ∀ n ∈ x.1.weights Try.prog 43, n ≤ reachBytes) :
    ∃ (A : Option Addr) (l : List OpP) (c : Nat), cs = [.slice A l.length c] ∧ l.length ≤ c ∧ l.length ≤ 9223372036854775807 ∧ ∃ ds, LO W A ds l := by
  rcases DataW.trod_slice Try.underlying43 h with ⟨hcs, _⟩ | ⟨a, len, cap, elems, rest, f2, hfu, hcs, hxe, _, hl, hm, hlen, hel, _, _⟩
  · exact ⟨none, [], 0, hcs, Nat.le_refl _, by decide, [], LO.nil _ _⟩
  · have key : ∀ i, i < len → ∃ p : OC × OpP, OkA W p.1 p.2 ∧ ∀ j v, p.1.row.toList[j]? = some v → W.cell? (a.add (i * 21 + j)) = some v := by
      intro i him
      have h1 := hel i him
      have him' : i < elems.length := by omega
      rw [cells_op, List.getElem?_eq_getElem him'] at h1
      obtain ⟨cs', hc, ht⟩ := Option.bind_eq_some_iff.1 h1
      obtain ⟨c, o, rfl, hok⟩ := op_full ht (fun n hn => hw n (by
        rw [hxe]
        simp only [DataW.weights, Try.underlying43, List.mem_cons, List.mem_append]
        exact .inr (.inl (weights_all (List.mem_map.2 ⟨_, List.getElem_mem him', rfl⟩) n hn))))
      obtain ⟨_, _, hat⟩ := World.cells?_some hc
      refine ⟨(c, o), hok, fun j v hv => ?_⟩
      have hj := (List.getElem?_eq_some_iff.1 hv).1
      have a0 := hat (i := j) (by simpa [OC.row] using hj)
      rw [add_add] at a0
      rw [a0]
      exact hv
    haveI : Inhabited (OC × OpP) := ⟨(OC.zero, zeroO)⟩
    obtain ⟨q, hq⟩ := choose_lt key
    have hlen2 : ((List.range len).map fun i => (q i).2).length = len := by simp
    have hlen3 : ((List.range len).map fun i => (q i).1).length = len := by simp
    have hget1 : ∀ (k : Nat) (c : OC), ((List.range len).map fun i => (q i).1)[k]? = some c → k < len ∧ c = (q k).1 := fun k c hk => by
      have hkl : k < len := by have := (List.getElem?_eq_some_iff.1 hk).1; rwa [hlen3] at this
      rw [List.getElem?_map, List.getElem?_range hkl] at hk
      simp only [Option.map_some, Option.some.injEq] at hk
      exact ⟨hkl, hk.symm⟩
    have hget2 : ∀ (k : Nat) (o : OpP), ((List.range len).map fun i => (q i).2)[k]? = some o → o = (q k).2 := fun k o hk => by
      have hkl : k < len := by have := (List.getElem?_eq_some_iff.1 hk).1; rwa [hlen2] at this
      rw [List.getElem?_map, List.getElem?_range hkl] at hk
      simp only [Option.map_some, Option.some.injEq] at hk
      exact hk.symm
    refine ⟨some a, (List.range len).map fun i => (q i).2, cap, by rw [hlen2]; exact hcs, by rw [hlen2]; exact hl, by rw [hlen2]; unfold maxLen at hm; omega, (List.range len).map fun i => (q i).1, ⟨fun hn => ?_, by rw [hlen2, hlen3], fun k c o h1 h2 => ?_⟩⟩
    · have h0 : 0 < len := by
        rcases Nat.eq_zero_or_pos len with h | h
        · subst h; exact absurd rfl hn
        · exact h
      have hs := cell_spot ((hq 0 h0).2 0 _ rfl)
      simp only [Nat.zero_mul, Nat.add_zero, Addr.add, if_true] at hs
      obtain ⟨b, o, s⟩ := a
      obtain rfl : s = none := hs.2
      refine ⟨b, o, rfl, hs.1, fun k u hk => ?_⟩
      have hkl := (List.getElem?_eq_some_iff.1 hk).1
      rw [cellsO_len, hlen3] at hkl
      have hd : k / 21 < len := by omega
      have e1 : ((List.range len).map fun i => (q i).1)[k / 21]? = some (q (k / 21)).1 := by rw [List.getElem?_map, List.getElem?_range hd]; rfl
      have hj : k % 21 < (q (k / 21)).1.row.toList.length := by show _ < 21; omega
      have e2 := cellsO_at e1 (k % 21) _ (List.getElem?_eq_getElem hj)
      rw [show k / 21 * 21 + k % 21 = k by omega, hk] at e2
      have h3 := (hq (k / 21) hd).2 (k % 21) _ (List.getElem?_eq_getElem hj)
      rw [show k / 21 * 21 + k % 21 = k by omega, add_plain] at h3
      rw [h3, e2]
    · obtain ⟨hkl, rfl⟩ := hget1 k c h1
      obtain rfl := hget2 k o h2
      exact (hq k hkl).1
set_option maxRecDepth 4000 in
theorem open_ops {r : Reach} {b0 : Nat} {v : Value} {d : DataW H} {p : List MemPlace} (hv : Value.okWide Try.prog W r b0 43 v) (h : DataW.Trod enc Try.prog W base (fun _ => true) held 43 v d p) (hw : ∀ n ∈ d.weights Try.prog 43, n ≤ reachBytes) :
    ∃ (A : Option Addr) (l : List OpP) (c : Nat), v = .slice A l.length c ∧ l.length ≤ c ∧ l.length ≤ 9223372036854775807 ∧ ∃ ds, LO W A ds l := by
  obtain ⟨a0, len0, cap0, rfl⟩ := okWide_slice Try.underlying43 hv
  obtain ⟨fuel, hf⟩ := h
  obtain ⟨A, l, c, hcs, h1, h2, h3⟩ := ops_full hf hw
  simp [Value.cells] at hcs
  obtain ⟨rfl, rfl, rfl⟩ := hcs
  exact ⟨_, l, _, rfl, h1, h2, h3⟩
end

end Go.Proofs.Ytdjajpookmmafaa
