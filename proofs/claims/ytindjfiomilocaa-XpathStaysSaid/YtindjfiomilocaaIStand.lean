/- Same and Above, and the document's own_i, answer how two paths stand; memory stays as it was. -/
import Derived.Test.YtindjfiomilocaaIAlike
namespace Go.Proofs.Ytindjfiomilocaa
open Go.RowKit

theorem isame_yes (l m : List Int) (h : l.length = m.length) (h2 : alikeN l m = l.length) : samI l m = true := by
  unfold samI; exact decide_eq_true ((alikeN_eq l m h).1 h2)
set_option maxRecDepth 4000 in
theorem isame_no (l m : List Int) (h : l.length ≠ m.length ∨ alikeN l m ≠ l.length) : samI l m = false := by
  unfold samI
  refine decide_eq_false ?_
  rintro rfl
  rcases h with h | h
  · exact h rfl
  · exact h (alikeN_self l)
set_option maxRecDepth 4000 in
theorem above_yes (l m : List Int) (h : l.length < m.length) (h2 : alikeN l m = l.length) : aboveL l m = true := by
  unfold aboveL; simp [h, h2]
set_option maxRecDepth 4000 in
theorem above_no (l m : List Int) (h : ¬ l.length < m.length ∨ alikeN l m ≠ l.length) : aboveL l m = false := by
  unfold aboveL
  rcases h with h | h <;> simp [h]

set_option maxRecDepth 4000 in
set_option maxHeartbeats 2000000 in
theorem isame_any (A B : Option Addr) (l m : List Int) (c d : Nat) (w : World) (hl : l.length ≤ 9223372036854775807) (hm : m.length ≤ 9223372036854775807) (hp : IL w w.heap.size A l) (hq : IL w w.heap.size B m) :
    Calls Try.prog 16 #[.slice A l.length c, .slice B m.length d] w (Quiet (.bool (samI l m)) w) := by
  have HC := hd (palike_any A B l m c d w hl hm hp hq)
  clear hp hq
  by_cases h1 : l.length = m.length
  · have hx : ((l.length : Int) == (m.length : Int)) = true := by simp [h1]
    by_cases h2 : alikeN l m = l.length
    · have hy : ((alikeN l m : Int) == (l.length : Int)) = true := by simp [h2]
      have HF := hd (isame_yes l m h1 h2)
      clear h1 h2
      go_enter Try.func16, Try.ntmps16
      go_wp2_with (go_at_call 29; refine HC.out.mono ?_; rintro e w' ⟨rfl, kd, rfl⟩)
      go_ret
      exact ret_quiet (bool_eq (by rw [HF.out])) (by first | exact ⟨_, rfl⟩ | exact ⟨_, World.drewN_drewN _ _ _⟩ | exact ⟨_, (World.drewN_drewN _ _ _).trans (World.drewN_drewN _ _ _)⟩)
    · have hy : ((alikeN l m : Int) == (l.length : Int)) = false := by simp; omega
      have HF := hd (isame_no l m (.inr h2))
      clear h1 h2
      go_enter Try.func16, Try.ntmps16
      go_wp2_with (go_at_call 29; refine HC.out.mono ?_; rintro e w' ⟨rfl, kd, rfl⟩)
      go_ret
      exact ret_quiet (bool_eq (by rw [HF.out])) (by first | exact ⟨_, rfl⟩ | exact ⟨_, World.drewN_drewN _ _ _⟩ | exact ⟨_, (World.drewN_drewN _ _ _).trans (World.drewN_drewN _ _ _)⟩)
  · have hx : ((l.length : Int) == (m.length : Int)) = false := by simp; omega
    have HF := hd (isame_no l m (.inl h1))
    clear h1
    go_enter Try.func16, Try.ntmps16
    go_wp2
    go_ret
    exact ret_quiet (bool_eq (by rw [HF.out])) ⟨0, rfl⟩

set_option maxRecDepth 4000 in
set_option maxHeartbeats 2000000 in
theorem above_any (A B : Option Addr) (l m : List Int) (c d : Nat) (w : World) (hl : l.length ≤ 9223372036854775807) (hm : m.length ≤ 9223372036854775807) (hp : IL w w.heap.size A l) (hq : IL w w.heap.size B m) :
    Calls Try.prog 17 #[.slice A l.length c, .slice B m.length d] w (Quiet (.bool (aboveL l m)) w) := by
  have HC := hd (palike_any A B l m c d w hl hm hp hq)
  clear hp hq
  by_cases h1 : l.length < m.length
  · by_cases h2 : alikeN l m = l.length
    · have hy : ((alikeN l m : Int) == (l.length : Int)) = true := by simp [h2]
      have HF := hd (above_yes l m h1 h2)
      clear h2
      go_enter Try.func17, Try.ntmps17
      go_wp2_with (go_at_call 29; refine HC.out.mono ?_; rintro e w' ⟨rfl, kd, rfl⟩)
      go_ret
      exact ret_quiet (bool_eq (by rw [HF.out])) (by first | exact ⟨_, rfl⟩ | exact ⟨_, World.drewN_drewN _ _ _⟩ | exact ⟨_, (World.drewN_drewN _ _ _).trans (World.drewN_drewN _ _ _)⟩)
    · have hy : ((alikeN l m : Int) == (l.length : Int)) = false := by simp; omega
      have HF := hd (above_no l m (.inr h2))
      clear h2
      go_enter Try.func17, Try.ntmps17
      go_wp2_with (go_at_call 29; refine HC.out.mono ?_; rintro e w' ⟨rfl, kd, rfl⟩)
      go_ret
      exact ret_quiet (bool_eq (by rw [HF.out])) (by first | exact ⟨_, rfl⟩ | exact ⟨_, World.drewN_drewN _ _ _⟩ | exact ⟨_, (World.drewN_drewN _ _ _).trans (World.drewN_drewN _ _ _)⟩)
  · have hx : decide (l.length < m.length) = false := decide_eq_false h1
    have HF := hd (above_no l m (.inl h1))
    clear h1
    go_enter Try.func17, Try.ntmps17
    go_wp2
    go_ret
    exact ret_quiet (bool_eq (by rw [HF.out])) ⟨0, rfl⟩

set_option maxRecDepth 4000 in
set_option maxHeartbeats 2000000 in
theorem irsame_any (A B : Option Addr) (l m : List Int) (c d : Nat) (w : World) (hl : l.length ≤ 9223372036854775807) (_hm : m.length ≤ 9223372036854775807) (hp : IL w w.heap.size A l) (hq : IL w w.heap.size B m) :
    Calls Try.prog 14 #[.slice A l.length c, .slice B m.length d] w (Quiet (.bool (samI l m)) w) := by
  have HP := hd hp
  have HQ := hd hq
  clear hp hq
  by_cases hlm : l.length = m.length
  · have hx : ((l.length : Int) != (m.length : Int)) = false := by simp; omega
    have HL := hd hlm
    clear hlm
    go_enter Try.func14, Try.ntmps14
    go_wp2
    go_loopw [13] (fun i wr => ∃ n : Nat, n ≤ l.length ∧ i = .int .i64 n ∧ (∃ k, wr = w.drewN k) ∧ Hid (∀ j, j < n → iAt l j = iAt m j)) (fun i _ => l.length - (intOf i).toNat)
    case atStart => exact ⟨0, Nat.zero_le _, rfl, ⟨0, rfl⟩, fun j hj => absurd hj (Nat.not_lt_zero _)⟩
    case round =>
      obtain ⟨n, hn1, rfl, ⟨kd, rfl⟩, HA⟩ := hrel
      by_cases h1 : n < l.length
      · have h2 : n < m.length := by have := HL.out; omega
        obtain ⟨b1, o1, rfl, hl1, c1⟩ := HP.out.at_ h1
        obtain ⟨b2, o2, rfl, hl2, c2⟩ := HQ.out.at_ h2
        by_cases hs : iAt l n = iAt m n
        · have HB := one_more (p := fun j => iAt l j = iAt m j) HA hs
          have hy : (iAt l n != iAt m n) = false := by simp [hs]
          clear HA hs
          go_wp2_with fail
          go_quiet (fail)
          go_wp2
          go_roundw
          case rel => exact ⟨n + 1, by omega, by go_num, (by first | exact ⟨_, rfl⟩ | exact ⟨_, World.drewN_drewN _ _ _⟩ | exact ⟨_, (World.drewN_drewN _ _ _).trans (World.drewN_drewN _ _ _)⟩), HB⟩
          case measure => simp [intOf]; omega
        · have HF := hd (isame_no l m (.inr (by have := alikeN_of l m n (by omega) (by omega) HA.out (fun _ _ => hs); omega)))
          have hy : (iAt l n != iAt m n) = true := by simp [hs]
          clear HA hs
          go_wp2_with fail
          go_quiet (fail)
          go_wp2
          go_ret
          exact ret_quiet (bool_eq (by rw [HF.out])) (by first | exact ⟨_, rfl⟩ | exact ⟨_, World.drewN_drewN _ _ _⟩ | exact ⟨_, (World.drewN_drewN _ _ _).trans (World.drewN_drewN _ _ _)⟩)
      · have HF := hd (isame_yes l m HL.out (by have := alikeN_of l m n (by omega) (by have := HL.out; omega) HA.out (fun _ _ => by omega); omega))
        clear HA
        go_wp2
        go_ret
        exact ret_quiet (bool_eq (by rw [HF.out])) (by first | exact ⟨_, rfl⟩ | exact ⟨_, World.drewN_drewN _ _ _⟩ | exact ⟨_, (World.drewN_drewN _ _ _).trans (World.drewN_drewN _ _ _)⟩)
  · have hx : ((l.length : Int) != (m.length : Int)) = true := by simp; omega
    have HF := hd (isame_no l m (.inl hlm))
    clear hlm
    go_enter Try.func14, Try.ntmps14
    go_wp2
    go_ret
    exact ret_quiet (bool_eq (by rw [HF.out])) ⟨0, rfl⟩

end Go.Proofs.Ytindjfiomilocaa
