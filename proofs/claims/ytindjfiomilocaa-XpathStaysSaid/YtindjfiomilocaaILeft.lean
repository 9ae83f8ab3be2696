/- Left, and the document's, answers whether one path stands left of another one; memory stays as it was. -/
import Derived.Test.YtindjfiomilocaaIStand
import Derived.IntWalk
namespace Go.Proofs.Ytindjfiomilocaa
open Go.RowKit

theorem left_no (l m : List Int) (K : Nat) (hK : K = alikeN l m) (h : K + 1 ≠ l.length ∨ ¬ K < m.length ∨ ¬ iAt l K < iAt m K) : leftL l m = false := by
  subst hK
  cases h2 : leftL l m
  · rfl
  · rw [leftL_iff] at h2
    omega

set_option maxRecDepth 4000 in
set_option maxHeartbeats 2000000 in
theorem ileft_any (A B : Option Addr) (l m : List Int) (c d : Nat) (w : World) (hl : l.length ≤ 9223372036854775807) (hm : m.length ≤ 9223372036854775807) (hp : IL w w.heap.size A l) (hq : IL w w.heap.size B m) :
    Calls Try.prog 20 #[.slice A l.length c, .slice B m.length d] w (Quiet (.bool (leftL l m)) w) := by
  have HC := hd (palike_any A B l m c d w hl hm hp hq)
  have hN := alikeN_le l m
  obtain ⟨K, hK⟩ : ∃ K, K = alikeN l m := ⟨_, rfl⟩
  rw [← hK] at HC hN
  have HK := hd hK
  clear hK
  have ws : IntKind.i64.wrap ((l.length : Int) - 1) = (l.length : Int) - 1 := IntWalk.i64_in _ (by omega)
  by_cases h1 : K + 1 = l.length
  · have hx : ((K : Int) == (l.length : Int) - 1) = true := by simp; omega
    by_cases h2 : K < m.length
    · obtain ⟨b1, o1, rfl, hl1, c1⟩ := hp.at_ (show K < l.length by omega)
      obtain ⟨b2, o2, rfl, hl2, c2⟩ := hq.at_ h2
      have h0 : K < l.length := by omega
      by_cases h3 : iAt l K < iAt m K
      · have HF := hd ((leftL_iff l m).2 (by rw [← HK.out]; exact ⟨h1, h2, h3⟩))
        clear hp hq hN h1
        go_enter Try.func20, Try.ntmps20
        go_wp2_with (go_at_call 29; refine HC.out.mono ?_; rintro e w' ⟨rfl, kd, rfl⟩)
        go_quiet (fail)
        go_wp2
        go_ret
        exact ret_quiet (bool_eq (by rw [HF.out])) (by first | exact ⟨_, rfl⟩ | exact ⟨_, World.drewN_drewN _ _ _⟩ | exact ⟨_, (World.drewN_drewN _ _ _).trans (World.drewN_drewN _ _ _)⟩)
      · have HF := hd (left_no l m K HK.out (.inr (.inr h3)))
        have h3' : decide (iAt l K < iAt m K) = false := decide_eq_false h3
        clear hp hq hN h1 h3
        go_enter Try.func20, Try.ntmps20
        go_wp2_with (go_at_call 29; refine HC.out.mono ?_; rintro e w' ⟨rfl, kd, rfl⟩)
        go_quiet (fail)
        go_wp2
        go_ret
        exact ret_quiet (bool_eq (by rw [HF.out])) (by first | exact ⟨_, rfl⟩ | exact ⟨_, World.drewN_drewN _ _ _⟩ | exact ⟨_, (World.drewN_drewN _ _ _).trans (World.drewN_drewN _ _ _)⟩)
    · have HF := hd (left_no l m K HK.out (.inr (.inl h2)))
      have h2' : decide (K < m.length) = false := decide_eq_false h2
      clear hp hq hN h1 h2
      go_enter Try.func20, Try.ntmps20
      go_wp2_with (go_at_call 29; refine HC.out.mono ?_; rintro e w' ⟨rfl, kd, rfl⟩)
      go_quiet (fail)
      go_wp2
      go_ret
      exact ret_quiet (bool_eq (by rw [HF.out])) (by first | exact ⟨_, rfl⟩ | exact ⟨_, World.drewN_drewN _ _ _⟩ | exact ⟨_, (World.drewN_drewN _ _ _).trans (World.drewN_drewN _ _ _)⟩)
  · have HF := hd (left_no l m K HK.out (.inl h1))
    have hx : ((K : Int) == (l.length : Int) - 1) = false := by simp; omega
    clear hp hq hN h1
    go_enter Try.func20, Try.ntmps20
    go_wp2_with (go_at_call 29; refine HC.out.mono ?_; rintro e w' ⟨rfl, kd, rfl⟩)
    go_quiet (fail)
    go_wp2
    go_ret
    exact ret_quiet (bool_eq (by rw [HF.out])) (by first | exact ⟨_, rfl⟩ | exact ⟨_, World.drewN_drewN _ _ _⟩ | exact ⟨_, (World.drewN_drewN _ _ _).trans (World.drewN_drewN _ _ _)⟩)

set_option maxRecDepth 4000 in
theorem irsame_is (A B : Option Addr) (l m : List Int) (a b c d : Nat) (r : Bool) (hr : samI l m = r) (w : World) (ha : l.length = a) (hb : m.length = b) (hl : l.length ≤ 9223372036854775807) (hm : m.length ≤ 9223372036854775807) (hp : IL w w.heap.size A l) (hq : IL w w.heap.size B m) :
    Calls Try.prog 14 #[.slice A a c, .slice B b d] w (Quiet (.bool r) w) := by
  subst ha hb hr
  exact irsame_any A B l m c d w hl hm hp hq

set_option maxRecDepth 4000 in
theorem itake_same (l m : List Int) (k : Nat) (h1 : k ≤ l.length) (h2 : k ≤ m.length) : samI (l.take k) (m.take k) = decide (k ≤ alikeN l m) := by
  have h := level_is l (m.take k) k h1
  have h3 : aboveL (l.take k) (m.take k) = false := above_no _ _ (.inl (by simp; omega))
  rw [h3, Bool.or_false] at h
  rw [h, Bool.eq_iff_iff, decide_eq_true_iff, decide_eq_true_iff]
  constructor
  · intro h4
    rcases Nat.lt_or_ge (alikeN l m) k with hlt | hge
    · exfalso
      have := alikeN_same l (m.take k) (alikeN l m) (by omega)
      refine alikeN_ne l m (by omega) (by omega) ?_
      rw [this, iAt_eq (m.take k) (alikeN l m) (by simp; omega), iAt_eq m (alikeN l m) (by omega)]
      simp
    · exact hge
  · intro h4
    have : alikeN l (m.take k) = k := alikeN_of _ _ _ h1 (by simp; omega) (fun j hj => by
      rw [alikeN_same l m j (by omega), iAt_eq (m.take k) j (by simp; omega), iAt_eq m j (by omega)]
      simp) (fun _ h => absurd h (by simp; omega))
    omega
set_option maxRecDepth 4000 in
theorem take_len (l : List Int) (k : Nat) (h : k ≤ l.length) : (l.take k).length = k := by simp; omega
set_option maxRecDepth 4000 in
theorem take_at (l : List Int) (k j : Nat) (h : k ≤ l.length) (hj : j < k) : iAt (l.take k) j = iAt l j := by
  rw [iAt_eq _ j (by simp; omega), iAt_eq l j (by omega)]; simp

set_option maxRecDepth 4000 in
set_option maxHeartbeats 2000000 in
theorem rabove_any (A B : Option Addr) (l m : List Int) (c d : Nat) (w : World) (hl : l.length ≤ 9223372036854775807) (_hm : m.length ≤ 9223372036854775807) (hd1 : m.length ≤ d) (hp : IL w w.heap.size A l) (hq : IL w w.heap.size B m) :
    Calls Try.prog 25 #[.slice A l.length c, .slice B m.length d] w (Quiet (.bool (aboveL l m)) w) := by
  by_cases h1 : l.length < m.length
  · have HS := hd (irsame_is A B l (m.take l.length) l.length l.length c d (aboveL l m) (by
      have h := itake_same l m l.length (Nat.le_refl _) (by omega)
      rw [List.take_length] at h
      rw [h]
      have := alikeN_le l m
      unfold aboveL
      simp only [h1, decide_true, Bool.true_and]
      rw [Bool.eq_iff_iff, decide_eq_true_iff, decide_eq_true_iff]
      omega) w rfl (by simp; omega) hl (by simp; omega) hp (hq.take _))
    clear hp hq
    go_enter Try.func25, Try.ntmps25
    go_wp2_with fail
    refine HS.out.mono ?_
    rintro e w' ⟨rfl, kd, rfl⟩
    go_wp2
    go_ret
    exact ret_quiet rfl (by first | exact ⟨_, rfl⟩ | exact ⟨_, World.drewN_drewN _ _ _⟩ | exact ⟨_, (World.drewN_drewN _ _ _).trans (World.drewN_drewN _ _ _)⟩)
  · have hx : decide (l.length < m.length) = false := decide_eq_false h1
    have HF := hd (above_no l m (.inl h1))
    clear h1 hp hq
    go_enter Try.func25, Try.ntmps25
    go_wp2
    go_ret
    exact ret_quiet (bool_eq (by rw [HF.out])) ⟨0, rfl⟩

set_option maxRecDepth 4000 in
set_option maxHeartbeats 4000000 in
theorem rleft_any (A B : Option Addr) (l m : List Int) (n c d : Nat) (w : World) (hl : n ≤ 9223372036854775807) (_hm : m.length ≤ 9223372036854775807) (hc1 : n ≤ c) (hd1 : m.length ≤ d) (HL : Hid (l.length = n)) (hp : IL w w.heap.size A l) (hq : IL w w.heap.size B m) :
    Calls Try.prog 26 #[.slice A n c, .slice B m.length d] w (Quiet (.bool (leftL l m)) w) := by
  rcases n with _ | k
  · have HF := hd (left_no l m _ rfl (.inl (by have := HL.out; omega)))
    clear hp hq
    go_enter Try.func26, Try.ntmps26
    go_wp2_with fail
    go_quiet (fail)
    go_wp2
    go_ret
    exact ret_quiet (bool_eq (by rw [HF.out])) (by first | exact ⟨_, rfl⟩ | exact ⟨_, World.drewN_drewN _ _ _⟩ | exact ⟨_, (World.drewN_drewN _ _ _).trans (World.drewN_drewN _ _ _)⟩)
  · by_cases h2 : k < m.length
    · have HS : Hid (∀ (r : Bool), decide (k ≤ alikeN l m) = r → ∀ n' : Nat, Calls Try.prog 14 #[.slice A k c, .slice B k d] (w.drewN n') fun e w' => e = .returned (.bool r) ∧ ∃ m, w' = w.drewN m) := hd (fun r hr n' => quiet_in0 (irsame_is A B (l.take k) (m.take k) k k c d r ((itake_same l m k (by have := HL.out; omega) (by omega)).trans hr) (w.drewN n') (by have := HL.out; simp; omega) (by simp; omega) (by simp; omega) (by simp; omega) (hp.take _) (hq.take _)))
      obtain ⟨b1, o1, rfl, hl1, c1⟩ := hp.at_ (show k < l.length by have := HL.out; omega)
      obtain ⟨b2, o2, rfl, hl2, c2⟩ := hq.at_ h2
      cases h3 : decide (k ≤ alikeN l m)
      · have HT := hd (HS.out _ h3)
        have HF := hd (left_no l m _ rfl (.inl (by have := of_decide_eq_false h3; have := HL.out; omega)))
        clear hp hq HS h3
        go_enter Try.func26, Try.ntmps26
        go_wp2_with fail
        go_quiet ((go_at_call 14; exact HT.out _))
        go_wp2
        go_ret
        exact ret_quiet (bool_eq (by rw [HF.out])) (by first | exact ⟨_, rfl⟩ | exact ⟨_, World.drewN_drewN _ _ _⟩ | exact ⟨_, (World.drewN_drewN _ _ _).trans (World.drewN_drewN _ _ _)⟩)
      · have HT := hd (HS.out _ h3)
        have h4 := of_decide_eq_true h3
        by_cases h5 : iAt l k < iAt m k
        · have HF := hd ((leftL_iff l m).2 (by
            have e : alikeN l m = k := by
              rcases Nat.lt_or_ge k (alikeN l m) with hlt | hge
              · have := alikeN_same l m k hlt; omega
              · omega
            rw [e]
            exact ⟨by have := HL.out; omega, h2, h5⟩))
          clear hp hq HS h3 h4
          go_enter Try.func26, Try.ntmps26
          go_wp2_with fail
          go_quiet ((go_at_call 14; exact HT.out _))
          go_wp2
          go_ret
          exact ret_quiet (bool_eq (by rw [HF.out])) (by first | exact ⟨_, rfl⟩ | exact ⟨_, World.drewN_drewN _ _ _⟩ | exact ⟨_, (World.drewN_drewN _ _ _).trans (World.drewN_drewN _ _ _)⟩)
        · have HF := hd (show leftL l m = false by
            cases h6 : leftL l m
            · rfl
            · exfalso
              rw [leftL_iff] at h6
              have e : alikeN l m = k := by have := HL.out; omega
              rw [e] at h6
              exact h5 h6.2.2)
          have hx : decide (iAt l k < iAt m k) = false := decide_eq_false h5
          clear hp hq HS h3 h4 h5
          go_enter Try.func26, Try.ntmps26
          go_wp2_with fail
          go_quiet ((go_at_call 14; exact HT.out _))
          go_wp2
          go_ret
          exact ret_quiet (bool_eq (by rw [HF.out])) (by first | exact ⟨_, rfl⟩ | exact ⟨_, World.drewN_drewN _ _ _⟩ | exact ⟨_, (World.drewN_drewN _ _ _).trans (World.drewN_drewN _ _ _)⟩)
    · have HF := hd (left_no l m _ rfl (by have := alikeN_le l m; have := HL.out; omega))
      have hx : decide (k < m.length) = false := decide_eq_false h2
      clear hp hq h2
      go_enter Try.func26, Try.ntmps26
      go_wp2_with fail
      go_quiet (fail)
      go_wp2
      go_ret
      exact ret_quiet (bool_eq (by rw [HF.out])) (by first | exact ⟨_, rfl⟩ | exact ⟨_, World.drewN_drewN _ _ _⟩ | exact ⟨_, (World.drewN_drewN _ _ _).trans (World.drewN_drewN _ _ _)⟩)

end Go.Proofs.Ytindjfiomilocaa
