/- The document's Next and Back, on the common base. A whole operation stored into its new variable. -/
import Derived.Test.YtdjajpookmmafaaXOps
import Derived.Test.YtdjajpookmmafaaIBase
import Derived.Test.YtdjajpookmmafaaXLoad
import Derived.Laws.Tables
namespace Go.Proofs.Ytdjajpookmmafaa
open Go.RowKit
open Go.WideShapes (add_plain)

set_option maxHeartbeats 2000000 in
theorem irnext_any (A : Option Addr) (l : List Int) (n c : Nat) (w : World) (hn : l.length = n) (hl : n ≤ 1000) (hW : ∀ k, k < l.length → iAt l k ≤ 9223372036854775807 ∧ -9223372036854775808 ≤ iAt l k) (hp : IL w w.heap.size A l) :
    Calls Try.prog 30 #[.slice A n c] w (NewPE w (nextL l)) := by
  rcases n with _ | k
  · have HF := hd (show nextL l = ([], 6) by unfold nextL; rw [if_pos hn])
    clear hn hp hW
    go_enter Try.func30, Try.ntmps30
    go_wp2
    go_ret2
    exact newPE_ret HF.out (OwnI.nil _ _) (Below.refl _ _)
  · have hL := last_eq l k hn
    have hw := hW k (by omega)
    have HC := hd (icopy_any A l (k + 1) c w hn (by omega) hp)
    have HN := hd hn
    by_cases hm : iAt l k = 9223372036854775807
    · have HF := hd (show nextL l = ([], 8) by unfold nextL; rw [if_neg (by omega), if_pos (by omega)])
      have h1 : (iAt l k == 9223372036854775807) = true := by simp [hm]
      clear hn hp hW hL hm
      go_enter Try.func30, Try.ntmps30
      go_wp2_with fail
      refine HC.out.mono ?_
      rintro e w1 ⟨v1, rfl, ho, hb⟩
      obtain ⟨g, c1, rfl, q1, q2, q3, q4, q5, q6, q7⟩ := ho.form (by have := HN.out; omega)
      have hc := q5 k (by have := HN.out; omega)
      rw [HN.out] at q1
      rw [HN.out]
      clear ho q5 q6 q7
      go_wp2
      go_ret2
      exact newPE_ret HF.out (OwnI.nil _ _) hb
    · have HF := hd (show nextL l = (l.set k (iAt l k + 1), 0) by unfold nextL; rw [if_neg (by omega), hL, if_neg hm, sib_eq l k hn])
      have h1 : (iAt l k == 9223372036854775807) = false := by simp [hm]
      have h2 : iAt l k + 1 ≤ 9223372036854775807 := by omega
      clear hn hp hW hL hm
      go_enter Try.func30, Try.ntmps30
      go_wp2_with fail
      refine HC.out.mono ?_
      rintro e w1 ⟨v1, rfl, ho, hb⟩
      obtain ⟨g, c1, rfl, q1, q2, q3, q4, q5, q6, q7⟩ := ho.form (by have := HN.out; omega)
      have hc := q5 k (by have := HN.out; omega)
      have hf := q6 k
      have H7 := hd (q7 k (iAt l k + 1))
      rw [HN.out] at q1 H7
      rw [HN.out]
      clear ho q5 q6 q7
      go_wp2
      go_ret2
      exact newPE_ret HF.out H7.out (hb.setCell q3 _)
set_option maxRecDepth 4000 in
set_option maxHeartbeats 2000000 in
theorem irback_any (A : Option Addr) (l : List Int) (n c : Nat) (w : World) (hn : l.length = n) (hl : n ≤ 1000) (hW : ∀ k, k < l.length → iAt l k ≤ 9223372036854775807 ∧ -9223372036854775808 ≤ iAt l k) (hp : IL w w.heap.size A l) :
    Calls Try.prog 29 #[.slice A n c] w (NewPE w (backL l)) := by
  rcases n with _ | k
  · have HF := hd (show backL l = ([], 6) by unfold backL; rw [if_pos hn])
    clear hn hp hW
    go_enter Try.func29, Try.ntmps29
    go_wp2
    go_ret2
    exact newPE_ret HF.out (OwnI.nil _ _) (Below.refl _ _)
  · have hL := last_eq l k hn
    have hw := hW k (by omega)
    have HC := hd (icopy_any A l (k + 1) c w hn (by omega) hp)
    have HN := hd hn
    by_cases hm : iAt l k ≤ 0
    · have HF := hd (show backL l = ([], 8) by unfold backL; rw [if_neg (by omega), if_pos (by omega)])
      have h1 : decide (iAt l k ≤ 0) = true := by simp [hm]
      clear hn hp hW hL hm
      go_enter Try.func29, Try.ntmps29
      go_wp2_with fail
      refine HC.out.mono ?_
      rintro e w1 ⟨v1, rfl, ho, hb⟩
      obtain ⟨g, c1, rfl, q1, q2, q3, q4, q5, q6, q7⟩ := ho.form (by have := HN.out; omega)
      have hc := q5 k (by have := HN.out; omega)
      rw [HN.out] at q1
      rw [HN.out]
      clear ho q5 q6 q7
      go_wp2
      go_ret2
      exact newPE_ret HF.out (OwnI.nil _ _) hb
    · have HF := hd (show backL l = (l.set k (iAt l k - 1), 0) by unfold backL; rw [if_neg (by omega), hL, if_neg hm, sib_eq l k hn])
      have h1 : decide (iAt l k ≤ 0) = false := by simp [hm]
      have h2 : -9223372036854775808 ≤ iAt l k - 1 := by omega
      clear hn hp hW hL hm
      go_enter Try.func29, Try.ntmps29
      go_wp2_with fail
      refine HC.out.mono ?_
      rintro e w1 ⟨v1, rfl, ho, hb⟩
      obtain ⟨g, c1, rfl, q1, q2, q3, q4, q5, q6, q7⟩ := ho.form (by have := HN.out; omega)
      have hc := q5 k (by have := HN.out; omega)
      have hf := q6 k
      have H7 := hd (q7 k (iAt l k - 1))
      rw [HN.out] at q1 H7
      rw [HN.out]
      clear ho q5 q6 q7
      go_wp2
      go_ret2
      exact newPE_ret HF.out H7.out (hb.setCell q3 _)

set_option maxRecDepth 4000 in
theorem rnext_at {W : World} {u : Value} {l r : List Int} {e : Int} (hp : XA W u l) (hb : ∀ k, k < l.length → 0 ≤ iAt l k ∧ iAt l k ≤ 1048576) (hr : nextL l = (r, e)) : Calls Try.prog 30 #[u] W (NewPE W (r, e)) := by
  obtain ⟨A, n, c, rfl, h1, h2, h4, h3⟩ := hp
  rw [← hr]
  exact irnext_any A l n c W h1 h2 (fun k hk => by have := hb k hk; omega) h3

end Go.Proofs.Ytdjajpookmmafaa

namespace Go.Proofs.Ytdjajpookmmafaa
open Go.RowKit

theorem setRow_new (W : World) (old cells : Array Value) (t : TypeId) : (W.alloc (.cells old t)).setRow W.heap.size cells = W.alloc (.cells cells t) := by
  have hh : ((W.alloc (.cells old t)).setRow W.heap.size cells).heap = (W.alloc (.cells cells t)).heap := by
    apply Array.ext_getElem?
    intro i
    by_cases e : i = W.heap.size
    · subst e
      rw [setRow_heap _ _ old cells t (0, 0) (heap_alloc_new _ _)]
      exact (heap_alloc_new _ _).symm
    · rw [setRow_other _ _ _ _ e]
      show (W.heap.push _)[i]? = (W.heap.push _)[i]?
      rw [Array.getElem?_push, Array.getElem?_push, if_neg e, if_neg e]
  have h2 : (W.alloc (.cells old t)).setRow W.heap.size cells = { W.alloc (.cells cells t) with heap := ((W.alloc (.cells old t)).setRow W.heap.size cells).heap } := rfl
  rw [h2, hh]
set_option maxRecDepth 4000 in
theorem wpList_store_op {ops : Array Oper} {rest : List Oper} {op : Oper} {a : Act} {W : World} {Q : Exit → Act → World → Prop} {g : Nat} {old : Array Value} {t : TypeId} {x0 x1 x2 x3 x4 x5 x6 x7 x8 x9 x10 x11 x12 x13 x14 x15 x16 x17 x18 x19 x20 : Value} (x y : Operand) (ho : op.op = .store 35 x y) (hgd : op.guard = none) (hd : op.dst = none) (hx : a.eval x = .pointer (some ⟨g, 0, none⟩)) (hy : a.eval y = .agg #[x0, x1, x2, x3, x4, x5, x6, x7, x8, x9, x10, x11, x12, x13, x14, x15, x16, x17, x18, x19, x20]) (hg : W.heap.size = g) (hold : old.size = 21) (h1 : #[x0, x1, x2, x3, x4, x5, x6, x7, x8, x9, x10, x11, x12, x13, x14, x15, x16, x17, x18, x19, x20].all (·.oneCell') = true)
    (hk : wpList Try.prog ops Q rest a (W.alloc (.cells #[x0, x1, x2, x3, x4, x5, x6, x7, x8, x9, x10, x11, x12, x13, x14, x15, x16, x17, x18, x19, x20] t))) : wpList Try.prog ops Q (op :: rest) a (W.alloc (.cells old t)) := by
  subst hg
  obtain ⟨d, h3, h4, h5⟩ := op_row
  refine wpList_store_row hgd 35 x y ho W.heap.size _ hx hy t old (heap_alloc_new _ _) h5 hold h1 ?_
  rw [setRow_new, hd]
  exact hk

end Go.Proofs.Ytdjajpookmmafaa
