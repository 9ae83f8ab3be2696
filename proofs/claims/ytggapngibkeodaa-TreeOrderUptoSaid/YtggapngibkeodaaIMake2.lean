/- beside, Parent, Next and Back, and the document's own_i. -/
import Derived.Test.YtggapngibkeodaaIMake
import Derived.IntWalk
namespace Go.Proofs.Ytggapngibkeodaa
open Go.RowKit
open Go.WideShapes (add_plain)

theorem OwnI.form {w : World} {b : Nat} {v : Value} {l : List Int} (h : OwnI w b v l) (hl : 0 < l.length) : ∃ g c, v = .slice (some ⟨g, 0, none⟩) l.length c ∧ l.length ≤ c ∧ c ≤ maxLen ∧ b ≤ g ∧ g < w.heap.size ∧
    (∀ k, k < l.length → w.cell? ⟨g, k, none⟩ = some (.int .i64 (iAt l k))) ∧ (∀ k, w.frozen? ⟨g, k, none⟩ = false) ∧ ∀ k u, OwnI (w.setCell ⟨g, k, none⟩ (.int .i64 u)) b v (l.set k u) := by
  obtain ⟨A, c, rfl, h1, h2, h3⟩ := h
  obtain ⟨g, cap, hv, hbg, hlt⟩ := h3.form hl
  injection hv with hA _ hcap
  subst hA hcap
  refine ⟨g, c, rfl, h1, h2, hbg, hlt, fun k hk => ?_, fun k => h3.frozenAt k, fun k u => ?_⟩
  · rw [h3.cellAt k (by omega)]
    simp [iAt_eq l k hk, hk]
  · refine OwnI.of_own (n := l.length) ?_ (by simp)
    have := (h3.stored k (.int .i64 u)).1
    rwa [← List.map_set] at this

theorem newPE_ret {w w' : World} {r : List Int × Int} {l : List Int} {e : Int} {v : Value} (h : r = (l, e)) (ho : OwnI w' w.heap.size v l) (hb : Below w.heap.size w w') : NewPE w r (.returned (.tuple #[v, .int .i64 e])) w' := by
  subst h; exact ⟨v, rfl, ho, hb⟩
/-- The last number of a path that is not empty, and what is beside it. -/
theorem sib_eq (l : List Int) (k : Nat) (h : l.length = k + 1) (v : Int) : sib l v = l.set k v := by unfold sib; rw [h]; rfl
theorem last_eq (l : List Int) (k : Nat) (h : l.length = k + 1) : lastL l = iAt l k := by unfold lastL; rw [h]; rfl

set_option maxHeartbeats 1000000 in
theorem parent_any (A : Option Addr) (l : List Int) (n c : Nat) (w : World) (hn : l.length = n) (hl : n ≤ 1000) (hc : n ≤ c) (hp : IL w w.heap.size A l) :
    Calls Try.prog 33 #[.slice A n c] w (NewPE w (parentL l)) := by
  rcases n with _ | k
  · have HF := hd (show parentL l = ([], 6) by unfold parentL; rw [if_pos hn])
    clear hn hp
    go_enter Try.func33, Try.ntmps33
    go_wp2
    go_ret2
    exact newPE_ret HF.out (OwnI.nil _ _) (Below.refl _ _)
  · have HF := hd (show parentL l = (l.take k, 0) by unfold parentL; rw [if_neg (by omega), hn]; rfl)
    have HC := hd (ifresh_any A (l.take k) k c w (by simp; omega) (by omega) (hp.take k))
    clear hn hp
    go_enter Try.func33, Try.ntmps33
    go_wp2_with fail
    refine HC.out.mono ?_
    rintro e w1 ⟨v1, rfl, ho, hb⟩
    go_wp2
    go_ret2
    exact newPE_ret HF.out ho hb
set_option maxHeartbeats 1000000 in
theorem rparent_any (A : Option Addr) (l : List Int) (n c : Nat) (w : World) (hn : l.length = n) (hl : n ≤ 1000) (hc : n ≤ c) (hp : IL w w.heap.size A l) :
    Calls Try.prog 43 #[.slice A n c] w (NewPE w (parentL l)) := by
  rcases n with _ | k
  · have HF := hd (show parentL l = ([], 6) by unfold parentL; rw [if_pos hn])
    clear hn hp
    go_enter Try.func43, Try.ntmps43
    go_wp2
    go_ret2
    exact newPE_ret HF.out (OwnI.nil _ _) (Below.refl _ _)
  · have HF := hd (show parentL l = (l.take k, 0) by unfold parentL; rw [if_neg (by omega), hn]; rfl)
    have HC := hd (icopy_any A (l.take k) k c w (by simp; omega) (by omega) (hp.take k))
    clear hn hp
    go_enter Try.func43, Try.ntmps43
    go_wp2_with fail
    refine HC.out.mono ?_
    rintro e w1 ⟨v1, rfl, ho, hb⟩
    go_wp2
    go_ret2
    exact newPE_ret HF.out ho hb

end Go.Proofs.Ytggapngibkeodaa
