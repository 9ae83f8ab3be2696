/- Whether points' paths are short. -/
import Derived.Test.YtjolmnghoigggaaKLive
namespace Go.Proofs.Ytjolmnghoigggaa
open Go.RowKit

/-- The row of points at block g: their paths' slices, their Offs. -/
def PtRow (w : World) (g : Nat) (P : List (Option Addr × Nat × Nat × Int)) : Prop := ∀ j q, P[j]? = some q → w.cell? ⟨g, j * 2, none⟩ = some (.slice q.1 q.2.1 q.2.2.1) ∧ w.cell? ⟨g, j * 2 + 1, none⟩ = some (.int .i64 q.2.2.2)
def shortB (P : List (Option Addr × Nat × Nat × Int)) : Bool := P.all fun q => decide (q.2.1 ≤ 50)
set_option maxRecDepth 4000 in
theorem PtRow.below {w w' : World} {g : Nat} {P : List (Option Addr × Nat × Nat × Int)} (h : PtRow w g P) (hg : g < w.heap.size) (hb : Below w.heap.size w w') : PtRow w' g P := fun j q hq =>
  ⟨(hb.cell (show g < _ from hg)).trans (h j q hq).1, (hb.cell (show g < _ from hg)).trans (h j q hq).2⟩

set_option maxRecDepth 4000 in
set_option maxHeartbeats 2000000 in
theorem short_any (g : Nat) (P : List (Option Addr × Nat × Nat × Int)) (n : Nat) (w : World) (hn : P.length = n) (hl : n ≤ 1000) (hg : g < w.heap.size) (hP : PtRow w g P) (hm : ∀ q ∈ P, q.2.1 ≤ 9223372036854775807) :
    Calls Try.prog 11 #[.slice (some ⟨g, 0, none⟩) n n] w (Still (.bool (shortB P)) w) := by
  have HP := hd hP
  have HN := hd hn
  have HG := hd hg
  have HM := hd hm
  clear hP hn hm hg
  go_enter Try.func11, Try.ntmps11
  go_wp2
  go_loopw [7] (fun i wr => ∃ k : Nat, k ≤ n ∧ i = .int .i64 k ∧ Hid (Below w.heap.size w wr) ∧ Hid (∀ j q, j < k → P[j]? = some q → q.2.1 ≤ 50)) (fun i _ => n - (intOf i).toNat)
  case atStart => exact ⟨0, Nat.zero_le _, rfl, Below.refl _ _, fun j q hj => absurd hj (Nat.not_lt_zero _)⟩
  case round =>
    obtain ⟨k, hk, rfl, HB, HA⟩ := hrel
    by_cases hlt : k < n
    · obtain ⟨q, hq⟩ : ∃ q, P[k]? = some q := ⟨_, List.getElem?_eq_getElem (by rw [HN.out]; exact hlt)⟩
      obtain ⟨c0, c1⟩ := (HP.out.below HG.out HB.out) k q hq
      obtain ⟨A, m, c, x⟩ := q
      have hml : m ≤ 9223372036854775807 := HM.out _ (List.mem_of_getElem? hq)
      have HQ := hd hq
      have HB2 := hd (HB.out.alloc HB.out.size (.cells #[.slice A m c, .int .i64 x] 29))
      simp only at c0 c1
      clear hq
      by_cases h5 : m ≤ 50
      · have HA2 := hd (show ∀ j q, j < k + 1 → P[j]? = some q → q.2.1 ≤ 50 from fun j q hj hq => by
          rcases (show j < k ∨ j = k by omega) with h | rfl
          · exact HA.out j q h hq
          · rw [HQ.out] at hq; injection hq with hq; rw [← hq]; exact h5)
        go_wp2
        go_roundw
        case rel => exact ⟨k + 1, by omega, by first | go_num | rfl, HB2, HA2⟩
        case measure => first | (simp [intOf]; done) | (simp [intOf]; omega)
      · have HF := hd (show shortB P = false by
          unfold shortB
          rw [List.all_eq_false]
          exact ⟨_, List.mem_of_getElem? HQ.out, by simp; omega⟩)
        go_wp2
        go_ret
        exact ⟨ret_bool HF.out.symm, HB2.out⟩
    · have HF := hd (show shortB P = true by
        unfold shortB
        rw [List.all_eq_true]
        intro q hq
        obtain ⟨j, hj, e⟩ := List.getElem_of_mem hq
        exact decide_eq_true (HA.out j q (by rw [HN.out] at hj; omega) (by rw [List.getElem?_eq_getElem hj, e])))
      go_wp2
      go_ret
      exact ⟨ret_bool HF.out.symm, HB.out⟩

end Go.Proofs.Ytjolmnghoigggaa
