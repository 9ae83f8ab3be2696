/- beside, Parent, Next and Back, and the document's own_i. -/
import Derived.Test.YtindjfiomilocaaIMake
import Derived.IntWalk
namespace Go.Proofs.Ytindjfiomilocaa
open Go.RowKit
open Go.WideShapes (add_plain)

theorem OwnI.form {w : World} {b : Nat} {v : Value} {l : List Int} (h : OwnI w b v l) (hl : 0 < l.length) : ∃ g c, v = .slice (some ⟨g, 0, none⟩) l.length c ∧ l.length ≤ c ∧ c ≤ maxLen ∧ b ≤ g ∧ g < w.heap.size ∧
    (∀ k, k < l.length → w.cell? ⟨g, k, none⟩ = some (.int .i64 (iAt l k))) ∧ (∀ k, w.frozen? ⟨g, k, none⟩ = false) ∧ ∀ k u, OwnI (w.setCell ⟨g, k, none⟩ (.int .i64 u)) b v (l.set k u) := by
  obtain ⟨A, c, rfl, h1, h2, h3⟩ := h
  obtain ⟨g, cap, hv, hbg, hlt⟩ := h3.form hl
  injection hv with hA _ hcap
  subst hA hcap
  refine ⟨g, c, rfl, h1, h2, hbg, hlt, fun k hk => ?_, fun k => h3.frozenAt k, fun k u => ?_⟩
  · rw [h3.cellAt k (by omega)]
    simp [iAt_eq l k hk, hk]
  · refine OwnI.of_own (n := l.length) ?_ (by simp)
    have := (h3.stored k (.int .i64 u)).1
    rwa [← List.map_set] at this

set_option maxRecDepth 4000 in
theorem newPE_ret {w w' : World} {r : List Int × Int} {l : List Int} {e : Int} {v : Value} (h : r = (l, e)) (ho : OwnI w' w.heap.size v l) (hb : Below w.heap.size w w') : NewPE w r (.returned (.tuple #[v, .int .i64 e])) w' := by
  subst h; exact ⟨v, rfl, ho, hb⟩
set_option maxRecDepth 4000 in
/-- The last number of a path that is not empty, and what is beside it. -/
theorem sib_eq (l : List Int) (k : Nat) (h : l.length = k + 1) (v : Int) : sib l v = l.set k v := by unfold sib; rw [h]; rfl
set_option maxRecDepth 4000 in
theorem last_eq (l : List Int) (k : Nat) (h : l.length = k + 1) : lastL l = iAt l k := by unfold lastL; rw [h]; rfl

set_option maxRecDepth 4000 in
set_option maxHeartbeats 1000000 in
theorem beside_any (A : Option Addr) (l : List Int) (k c : Nat) (v : Int) (w : World) (hn : l.length = k + 1) (hl : k < 1000) (hp : IL w w.heap.size A l) :
    Calls Try.prog 30 #[.slice A (k + 1) c, .int .i64 v] w (NewP w (sib l v)) := by
  have HC := hd (ifresh_any A l (k + 1) c w hn (by omega) hp)
  have HN := hd hn
  clear hn hp
  go_enter Try.func30, Try.ntmps30
  go_wp2_with fail
  refine HC.out.mono ?_
  rintro e w1 ⟨v1, rfl, ho, hb⟩
  obtain ⟨g, c1, rfl, h1, h2, h3, h4, h5, h6, h7⟩ := ho.form (by have := HN.out; omega)
  have hc := h5 k (by have := HN.out; omega)
  have hf := h6 k
  have H7 := hd (h7 k v)
  rw [HN.out] at h1 H7
  rw [HN.out]
  clear ho h5 h6 h7
  go_wp2
  go_ret
  exact ⟨_, rfl, by rw [sib_eq l k HN.out]; exact H7.out, hb.setCell h3 _⟩

set_option maxRecDepth 4000 in
set_option maxHeartbeats 1000000 in
theorem next_any (A : Option Addr) (l : List Int) (n c : Nat) (w : World) (hn : l.length = n) (hl : n ≤ 1000) (hW : ∀ k, k < l.length → iAt l k ≤ 9223372036854775807 ∧ -9223372036854775808 ≤ iAt l k) (hp : IL w w.heap.size A l) :
    Calls Try.prog 18 #[.slice A n c] w (NewPE w (nextL l)) := by
  rcases n with _ | k
  · have HF := hd (show nextL l = ([], 6) by unfold nextL; rw [if_pos hn])
    clear hn hp hW
    go_enter Try.func18, Try.ntmps18
    go_wp2
    go_ret2
    exact newPE_ret HF.out (OwnI.nil _ _) (Below.refl _ _)
  · have hL := last_eq l k hn
    have hw := hW k (by omega)
    obtain ⟨b, o, rfl, hb0, hc⟩ := hp.at_ (show k < l.length by omega)
    have HC := hd (fun v => beside_any (some ⟨b, o, none⟩) l k c v w hn (by omega) hp)
    by_cases hm : iAt l k = 9223372036854775807
    · have HF := hd (show nextL l = ([], 8) by unfold nextL; rw [if_neg (by omega), if_pos (by omega)])
      have h1 : (iAt l k == 9223372036854775807) = true := by simp [hm]
      clear hn hp hW hL hm
      go_enter Try.func18, Try.ntmps18
      go_wp2
      go_ret2
      exact newPE_ret HF.out (OwnI.nil _ _) (Below.refl _ _)
    · have HF := hd (show nextL l = (sib l (iAt l k + 1), 0) by unfold nextL; rw [if_neg (by omega), hL, if_neg hm])
      have h1 : (iAt l k == 9223372036854775807) = false := by simp [hm]
      have h2 : iAt l k + 1 ≤ 9223372036854775807 := by omega
      clear hn hp hW hL hm
      go_enter Try.func18, Try.ntmps18
      go_wp2_with fail
      refine (HC.out _).mono ?_
      rintro e w1 ⟨v1, rfl, ho, hb⟩
      go_wp2
      go_ret2
      exact newPE_ret HF.out ho hb

end Go.Proofs.Ytindjfiomilocaa
