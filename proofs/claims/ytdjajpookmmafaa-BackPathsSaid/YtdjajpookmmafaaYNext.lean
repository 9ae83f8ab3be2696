/- The document's Next and Back, on the common base. -/
import Derived.Test.YtdjajpookmmafaaXOps
import Derived.Test.YtdjajpookmmafaaIBase
namespace Go.Proofs.Ytdjajpookmmafaa
open Go.RowKit
open Go.WideShapes (add_plain)

set_option maxHeartbeats 2000000 in
theorem irnext_any (A : Option Addr) (l : List Int) (n c : Nat) (w : World) (hn : l.length = n) (hl : n ≤ 1000) (hW : ∀ k, k < l.length → iAt l k ≤ 9223372036854775807 ∧ -9223372036854775808 ≤ iAt l k) (hp : IL w w.heap.size A l) :
    Calls Try.prog 30 #[.slice A n c] w (NewPE w (nextL l)) := by
  rcases n with _ | k
  · have HF := hd (show nextL l = ([], 6) by unfold nextL; rw [if_pos hn])
    clear hn hp hW
    go_enter Try.func30, Try.ntmps30
    go_wp2
    go_ret2
    exact newPE_ret HF.out (OwnI.nil _ _) (Below.refl _ _)
  · have hL := last_eq l k hn
    have hw := hW k (by omega)
    have HC := hd (icopy_any A l (k + 1) c w hn (by omega) hp)
    have HN := hd hn
    by_cases hm : iAt l k = 9223372036854775807
    · have HF := hd (show nextL l = ([], 8) by unfold nextL; rw [if_neg (by omega), if_pos (by omega)])
      have h1 : (iAt l k == 9223372036854775807) = true := by simp [hm]
      clear hn hp hW hL hm
      go_enter Try.func30, Try.ntmps30
      go_wp2_with fail
      refine HC.out.mono ?_
      rintro e w1 ⟨v1, rfl, ho, hb⟩
      obtain ⟨g, c1, rfl, q1, q2, q3, q4, q5, q6, q7⟩ := ho.form (by have := HN.out; omega)
      have hc := q5 k (by have := HN.out; omega)
      rw [HN.out] at q1
      rw [HN.out]
      clear ho q5 q6 q7
      go_wp2
      go_ret2
      exact newPE_ret HF.out (OwnI.nil _ _) hb
    · have HF := hd (show nextL l = (l.set k (iAt l k + 1), 0) by unfold nextL; rw [if_neg (by omega), hL, if_neg hm, sib_eq l k hn])
      have h1 : (iAt l k == 9223372036854775807) = false := by simp [hm]
      have h2 : iAt l k + 1 ≤ 9223372036854775807 := by omega
      clear hn hp hW hL hm
      go_enter Try.func30, Try.ntmps30
      go_wp2_with fail
      refine HC.out.mono ?_
      rintro e w1 ⟨v1, rfl, ho, hb⟩
      obtain ⟨g, c1, rfl, q1, q2, q3, q4, q5, q6, q7⟩ := ho.form (by have := HN.out; omega)
      have hc := q5 k (by have := HN.out; omega)
      have hf := q6 k
      have H7 := hd (q7 k (iAt l k + 1))
      rw [HN.out] at q1 H7
      rw [HN.out]
      clear ho q5 q6 q7
      go_wp2
      go_ret2
      exact newPE_ret HF.out H7.out (hb.setCell q3 _)
set_option maxRecDepth 4000 in
set_option maxHeartbeats 2000000 in
theorem irback_any (A : Option Addr) (l : List Int) (n c : Nat) (w : World) (hn : l.length = n) (hl : n ≤ 1000) (hW : ∀ k, k < l.length → iAt l k ≤ 9223372036854775807 ∧ -9223372036854775808 ≤ iAt l k) (hp : IL w w.heap.size A l) :
    Calls Try.prog 29 #[.slice A n c] w (NewPE w (backL l)) := by
  rcases n with _ | k
  · have HF := hd (show backL l = ([], 6) by unfold backL; rw [if_pos hn])
    clear hn hp hW
    go_enter Try.func29, Try.ntmps29
    go_wp2
    go_ret2
    exact newPE_ret HF.out (OwnI.nil _ _) (Below.refl _ _)
  · have hL := last_eq l k hn
    have hw := hW k (by omega)
    have HC := hd (icopy_any A l (k + 1) c w hn (by omega) hp)
    have HN := hd hn
    by_cases hm : iAt l k ≤ 0
    · have HF := hd (show backL l = ([], 8) by unfold backL; rw [if_neg (by omega), if_pos (by omega)])
      have h1 : decide (iAt l k ≤ 0) = true := by simp [hm]
      clear hn hp hW hL hm
      go_enter Try.func29, Try.ntmps29
      go_wp2_with fail
      refine HC.out.mono ?_
      rintro e w1 ⟨v1, rfl, ho, hb⟩
      obtain ⟨g, c1, rfl, q1, q2, q3, q4, q5, q6, q7⟩ := ho.form (by have := HN.out; omega)
      have hc := q5 k (by have := HN.out; omega)
      rw [HN.out] at q1
      rw [HN.out]
      clear ho q5 q6 q7
      go_wp2
      go_ret2
      exact newPE_ret HF.out (OwnI.nil _ _) hb
    · have HF := hd (show backL l = (l.set k (iAt l k - 1), 0) by unfold backL; rw [if_neg (by omega), hL, if_neg hm, sib_eq l k hn])
      have h1 : decide (iAt l k ≤ 0) = false := by simp [hm]
      have h2 : -9223372036854775808 ≤ iAt l k - 1 := by omega
      clear hn hp hW hL hm
      go_enter Try.func29, Try.ntmps29
      go_wp2_with fail
      refine HC.out.mono ?_
      rintro e w1 ⟨v1, rfl, ho, hb⟩
      obtain ⟨g, c1, rfl, q1, q2, q3, q4, q5, q6, q7⟩ := ho.form (by have := HN.out; omega)
      have hc := q5 k (by have := HN.out; omega)
      have hf := q6 k
      have H7 := hd (q7 k (iAt l k - 1))
      rw [HN.out] at q1 H7
      rw [HN.out]
      clear ho q5 q6 q7
      go_wp2
      go_ret2
      exact newPE_ret HF.out H7.out (hb.setCell q3 _)

set_option maxRecDepth 4000 in
theorem rnext_at {W : World} {u : Value} {l r : List Int} {e : Int} (hp : XA W u l) (hb : ∀ k, k < l.length → 0 ≤ iAt l k ∧ iAt l k ≤ 1048576) (hr : nextL l = (r, e)) : Calls Try.prog 30 #[u] W (NewPE W (r, e)) := by
  obtain ⟨A, n, c, rfl, h1, h2, h4, h3⟩ := hp
  rw [← hr]
  exact irnext_any A l n c W h1 h2 (fun k hk => by have := hb k hk; omega) h3

end Go.Proofs.Ytdjajpookmmafaa
