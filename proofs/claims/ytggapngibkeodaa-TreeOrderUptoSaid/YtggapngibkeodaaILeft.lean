/- Left, and the document's, answers whether one path stands left of another one; memory stays as it was. -/
import Derived.Test.YtggapngibkeodaaIStand
import Derived.IntWalk
namespace Go.Proofs.Ytggapngibkeodaa
open Go.RowKit

theorem left_no (l m : List Int) (K : Nat) (hK : K = alikeN l m) (h : K + 1 ≠ l.length ∨ ¬ K < m.length ∨ ¬ iAt l K < iAt m K) : leftL l m = false := by
  subst hK
  cases h2 : leftL l m
  · rfl
  · rw [leftL_iff] at h2
    omega

theorem irsame_is (A B : Option Addr) (l m : List Int) (a b c d : Nat) (r : Bool) (hr : samI l m = r) (w : World) (ha : l.length = a) (hb : m.length = b) (hl : l.length ≤ 9223372036854775807) (hm : m.length ≤ 9223372036854775807) (hp : IL w w.heap.size A l) (hq : IL w w.heap.size B m) :
    Calls Try.prog 48 #[.slice A a c, .slice B b d] w (Quiet (.bool r) w) := by
  subst ha hb hr
  exact irsame_any A B l m c d w hl hm hp hq

theorem itake_same (l m : List Int) (k : Nat) (h1 : k ≤ l.length) (h2 : k ≤ m.length) : samI (l.take k) (m.take k) = decide (k ≤ alikeN l m) := by
  have h := level_is l (m.take k) k h1
  have h3 : aboveL (l.take k) (m.take k) = false := above_no _ _ (.inl (by simp; omega))
  rw [h3, Bool.or_false] at h
  rw [h, Bool.eq_iff_iff, decide_eq_true_iff, decide_eq_true_iff]
  constructor
  · intro h4
    rcases Nat.lt_or_ge (alikeN l m) k with hlt | hge
    · exfalso
      have := alikeN_same l (m.take k) (alikeN l m) (by omega)
      refine alikeN_ne l m (by omega) (by omega) ?_
      rw [this, iAt_eq (m.take k) (alikeN l m) (by simp; omega), iAt_eq m (alikeN l m) (by omega)]
      simp
    · exact hge
  · intro h4
    have : alikeN l (m.take k) = k := alikeN_of _ _ _ h1 (by simp; omega) (fun j hj => by
      rw [alikeN_same l m j (by omega), iAt_eq (m.take k) j (by simp; omega), iAt_eq m j (by omega)]
      simp) (fun _ h => absurd h (by simp; omega))
    omega
theorem take_len (l : List Int) (k : Nat) (h : k ≤ l.length) : (l.take k).length = k := by simp; omega
theorem take_at (l : List Int) (k j : Nat) (h : k ≤ l.length) (hj : j < k) : iAt (l.take k) j = iAt l j := by
  rw [iAt_eq _ j (by simp; omega), iAt_eq l j (by omega)]; simp

end Go.Proofs.Ytggapngibkeodaa
