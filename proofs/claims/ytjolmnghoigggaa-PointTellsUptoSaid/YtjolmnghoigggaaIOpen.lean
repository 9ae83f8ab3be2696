/- An argument that is a list of numbers, opened: what its cells hold. -/
import Derived.Test.YtjolmnghoigggaaIBase
import Derived.Test.YtjolmnghoigggaaNOpen
import Derived.ProofKit
import Derived.Deep.Slices
import Derived.Deep.Fields
namespace Go.Proofs.Ytjolmnghoigggaa
open Go.ChangeShapes Go.WideShapes Go.RowKit Go.Deep

theorem cells_int : Try.prog.cellsOf 3 = 1 := by kernel_rfl
set_option maxRecDepth 4000 in
theorem cell_lt {w : World} {a : Addr} {v : Value} (h : w.cell? a = some v) : a.block < w.heap.size ∧ a.spot = none := by
  unfold World.cell? at h
  cases hb : w.heap[a.block]? with
  | none => rw [hb] at h; cases h
  | some o =>
    rw [hb] at h
    refine ⟨(Array.getElem?_eq_some_iff.1 hb).1, ?_⟩
    cases o <;> simp at h
    exact h.1
def Ints (l : List Int) : Prop := ∀ k, k < l.length → -9223372036854775808 ≤ iAt l k ∧ iAt l k ≤ 9223372036854775807
set_option maxRecDepth 4000 in
theorem wf_ints {l : List Int} (h : ∀ n ∈ l, (Lit.int .i64 n).wf = true) : Ints l := by
  intro k hk
  have := h (iAt l k) (by rw [iAt_eq l k hk]; exact List.getElem_mem hk)
  have e1 : IntKind.i64.min = -9223372036854775808 := by decide
  have e2 : IntKind.i64.max = 9223372036854775807 := by decide
  simp [Lit.wf, e1, e2] at this
  omega

set_option maxRecDepth 4000 in
/-- A list of numbers that came in. -/
theorem open_path {H : Type} {enc : TypeId × Value → H} {W : World} {r : Reach} {b0 base : Nat} {held : Bool} {v : Value} {d : DataW H} {p : List MemPlace} (hv : Value.okWide Try.prog W r b0 27 v)
    (h : DataW.Trod enc Try.prog W base (fun _ => true) held 27 v d p) : ∃ (A : Option Addr) (l : List Int) (c : Nat), v = .slice A l.length c ∧ l.length ≤ 9223372036854775807 ∧ l.length ≤ c ∧ Ints l ∧ IL W W.heap.size A l := by
  obtain ⟨a0, len0, cap0, rfl⟩ := okWide_slice Try.underlying27 hv
  obtain ⟨fuel, hf⟩ := h
  rcases open_ints Try.underlying27 Try.underlying3 cells_int hf with ⟨hcs, _⟩ | ⟨a, len, cap, zs, hcs, _, hl, hm, hz, _, hc, hw⟩
  · simp [Value.cells] at hcs
    obtain ⟨rfl, rfl, rfl⟩ := hcs
    exact ⟨none, [], 0, rfl, by decide, Nat.le_refl _, fun k hk => absurd hk (Nat.not_lt_zero _), IL.nil _ _ _⟩
  · simp [Value.cells] at hcs
    obtain ⟨rfl, rfl, rfl⟩ := hcs
    simp only [if_true] at hz
    have hlen : (zs.take len0).length = len0 := by simp; omega
    refine ⟨some a, zs.take len0, cap0, by rw [hlen], by rw [hlen]; unfold maxLen at hm; omega, by rw [hlen]; exact hl, wf_ints fun n hn => hw n (List.mem_of_mem_take hn), fun hn => ?_⟩
    have h0 : 0 < len0 := by
      rcases Nat.eq_zero_or_pos len0 with h | h
      · subst h; simp at hn
      · exact h
    have hs := cell_lt (hc 0 (by omega))
    simp only [Addr.add, if_true] at hs
    obtain ⟨b, o, s⟩ := a
    obtain rfl : s = none := hs.2
    refine ⟨b, o, rfl, hs.1, fun k hk => ?_⟩
    rw [hlen] at hk
    have h1 := hc k (by omega)
    rw [add_plain] at h1
    rw [h1, iAt_eq _ k (by omega)]
    simp [List.getD, show k < zs.length by omega]

end Go.Proofs.Ytjolmnghoigggaa
