/- Calls that only read: runes and plain runes, Check, Same, slices.Equal, and the document's. -/
import Derived.Test.YtdjajpookmmafaaGMem
namespace Go.Proofs.Ytdjajpookmmafaa
open Go.RowKit

theorem isR_t {c : Int} (h : 0 ≤ c ∧ c ≤ 55295 ∨ 57344 ≤ c ∧ c ≤ 1114111) : isR c = true := (isR_iff c).2 h
set_option maxRecDepth 4000 in
theorem isR_f {c : Int} (h : ¬ (0 ≤ c ∧ c ≤ 55295 ∨ 57344 ≤ c ∧ c ≤ 1114111)) : isR c = false := decide_eq_false h
set_option maxRecDepth 4000 in
theorem isP_t {c : Int} (h : 32 ≤ c ∧ c ≤ 126 ∧ c ≠ 34 ∧ c ≠ 92) : isP c = true := (isP_iff c).2 h
set_option maxRecDepth 4000 in
theorem isP_f {c : Int} (h : ¬ (32 ≤ c ∧ c ≤ 126 ∧ c ≠ 34 ∧ c ≠ 92)) : isP c = false := decide_eq_false h

def Pure (v : Value) (w : World) (e : Ending) (w' : World) : Prop := e = .returned v ∧ w = w'
set_option maxRecDepth 4000 in
theorem pure_ret {v v' : Value} {w : World} (h : v' = v) : Pure v w (.returned v') w := ⟨by rw [h], rfl⟩
set_option maxRecDepth 4000 in
theorem Pure.quiet {v : Value} {w : World} {e : Ending} {w' : World} (h : Pure v w e w') : Quiet v w e w' := ⟨h.1, 0, h.2.symm⟩

set_option maxRecDepth 4000 in
theorem sameL_ne_len {l m : List Int} (h : l.length ≠ m.length) : sameL l m = false := by
  unfold sameL; exact decide_eq_false fun e => h (by rw [e])
set_option maxRecDepth 4000 in
theorem sameL_ne_at {l m : List Int} {k : Nat} (h : atL l k ≠ atL m k) : sameL l m = false := by
  unfold sameL; exact decide_eq_false fun e => h (by rw [e])
set_option maxRecDepth 4000 in
theorem sameL_yes {l m : List Int} (hl : l.length = m.length) (h : ∀ k, k < l.length → atL l k = atL m k) : sameL l m = true := by
  unfold sameL
  refine decide_eq_true (List.ext_getElem hl fun i h1 h2 => ?_)
  have := h i h1
  rwa [atL_eq l i h1, atL_eq m i h2] at this
set_option maxRecDepth 4000 in
theorem sameL_self (l : List Int) : sameL l l = true := decide_eq_true rfl

set_option maxRecDepth 4000 in
set_option maxHeartbeats 2000000 in
theorem rsame_any (A B : Option Addr) (l m : List Int) (a b c d : Nat) (r : Bool) (hr : sameL l m = r) (w : World) (ha : l.length = a) (hb : m.length = b) (hl : a ≤ 9223372036854775807) (hm : b ≤ 9223372036854775807) (hp : VL w w.heap.size A (rv l)) (hq : VL w w.heap.size B (rv m)) :
    Calls Try.prog 33 #[.slice A a c, .slice B b d] w (Quiet (.bool r) w) := by
  have HP := hd hp
  have HQ := hd hq
  have HL := hd ha
  have HM := hd hb
  have HR := hd hr
  clear hp hq ha hb hr
  by_cases hab : a = b
  · subst hab
    go_enter Try.func33, Try.ntmps33
    go_wp2
    go_loopw [13] (fun i wr => ∃ n : Nat, n ≤ a ∧ i = .int .i64 n ∧ (∃ k, wr = w.drewN k) ∧ Hid (∀ j, j < n → atL l j = atL m j)) (fun i _ => a - (intOf i).toNat)
    case atStart => exact ⟨0, Nat.zero_le _, rfl, ⟨0, rfl⟩, fun j hj => absurd hj (Nat.not_lt_zero _)⟩
    case round =>
      obtain ⟨n, hn1, rfl, ⟨kd, rfl⟩, HA⟩ := hrel
      by_cases hlt : n < a
      · obtain ⟨b1, o1, rfl, hl1, c1⟩ := HP.out.rune (k := n) (by have := HL.out; omega)
        obtain ⟨b2, o2, rfl, hl2, c2⟩ := HQ.out.rune (k := n) (by have := HM.out; omega)
        by_cases hs : atL l n = atL m n
        · have HB := one_more (p := fun j => atL l j = atL m j) HA hs
          have hx : (atL l n != atL m n) = false := by simp [hs]
          clear HA hs
          go_wp2_with fail
          go_quiet (fail)
          go_wp2
          go_roundw
          case rel => exact ⟨n + 1, by omega, by go_num, (by first | exact ⟨_, rfl⟩ | exact ⟨_, World.drewN_drewN _ _ _⟩ | exact ⟨_, (World.drewN_drewN _ _ _).trans (World.drewN_drewN _ _ _)⟩), HB⟩
          case measure => simp [intOf]; omega
        · have HF := hd (show r = false by rw [← HR.out]; exact sameL_ne_at hs)
          have hx : (atL l n != atL m n) = true := by simp [hs]
          clear HA hs
          go_wp2_with fail
          go_quiet (fail)
          go_wp2
          go_ret
          exact ret_quiet (bool_eq (by rw [HF.out])) (by first | exact ⟨_, rfl⟩ | exact ⟨_, World.drewN_drewN _ _ _⟩ | exact ⟨_, (World.drewN_drewN _ _ _).trans (World.drewN_drewN _ _ _)⟩)
      · have HF := hd (show r = true by rw [← HR.out]; exact sameL_yes (by rw [HL.out, HM.out]) (fun j hj => HA.out j (by have := HL.out; omega)))
        clear HA
        go_wp2
        go_ret
        exact ret_quiet (bool_eq (by rw [HF.out])) ⟨kd, rfl⟩
  · have HF := hd (show r = false by rw [← HR.out]; exact sameL_ne_len (by rw [HL.out, HM.out]; exact hab))
    have hx : ((a : Int) != (b : Int)) = true := by simp; omega
    have hy : ((a : Int) == (b : Int)) = false := by simp; omega
    clear hab
    go_enter Try.func33, Try.ntmps33
    go_wp2
    go_ret
    exact ret_quiet (bool_eq (by rw [HF.out])) ⟨0, rfl⟩
set_option maxRecDepth 4000 in
set_option maxHeartbeats 2000000 in
theorem equal_any (A B : Option Addr) (l m : List Int) (a b c d : Nat) (r : Bool) (hr : sameL l m = r) (w : World) (ha : l.length = a) (hb : m.length = b) (hl : a ≤ 9223372036854775807) (hm : b ≤ 9223372036854775807) (hp : VL w w.heap.size A (rv l)) (hq : VL w w.heap.size B (rv m)) :
    Calls Try.prog 75 #[.slice A a c, .slice B b d] w (Quiet (.bool r) w) := by
  have HP := hd hp
  have HQ := hd hq
  have HL := hd ha
  have HM := hd hb
  have HR := hd hr
  clear hp hq ha hb hr
  by_cases hab : a = b
  · subst hab
    go_enter Try.func75, Try.ntmps75
    go_wp2
    go_loopw [13] (fun i wr => ∃ n : Nat, n ≤ a ∧ i = .int .i64 n ∧ (∃ k, wr = w.drewN k) ∧ Hid (∀ j, j < n → atL l j = atL m j)) (fun i _ => a - (intOf i).toNat)
    case atStart => exact ⟨0, Nat.zero_le _, rfl, ⟨0, rfl⟩, fun j hj => absurd hj (Nat.not_lt_zero _)⟩
    case round =>
      obtain ⟨n, hn1, rfl, ⟨kd, rfl⟩, HA⟩ := hrel
      by_cases hlt : n < a
      · obtain ⟨b1, o1, rfl, hl1, c1⟩ := HP.out.rune (k := n) (by have := HL.out; omega)
        obtain ⟨b2, o2, rfl, hl2, c2⟩ := HQ.out.rune (k := n) (by have := HM.out; omega)
        by_cases hs : atL l n = atL m n
        · have HB := one_more (p := fun j => atL l j = atL m j) HA hs
          have hx : (atL l n != atL m n) = false := by simp [hs]
          clear HA hs
          go_wp2_with fail
          go_quiet (fail)
          go_wp2
          go_roundw
          case rel => exact ⟨n + 1, by omega, by go_num, (by first | exact ⟨_, rfl⟩ | exact ⟨_, World.drewN_drewN _ _ _⟩ | exact ⟨_, (World.drewN_drewN _ _ _).trans (World.drewN_drewN _ _ _)⟩), HB⟩
          case measure => simp [intOf]; omega
        · have HF := hd (show r = false by rw [← HR.out]; exact sameL_ne_at hs)
          have hx : (atL l n != atL m n) = true := by simp [hs]
          clear HA hs
          go_wp2_with fail
          go_quiet (fail)
          go_wp2
          go_ret
          exact ret_quiet (bool_eq (by rw [HF.out])) (by first | exact ⟨_, rfl⟩ | exact ⟨_, World.drewN_drewN _ _ _⟩ | exact ⟨_, (World.drewN_drewN _ _ _).trans (World.drewN_drewN _ _ _)⟩)
      · have HF := hd (show r = true by rw [← HR.out]; exact sameL_yes (by rw [HL.out, HM.out]) (fun j hj => HA.out j (by have := HL.out; omega)))
        clear HA
        go_wp2
        go_ret
        exact ret_quiet (bool_eq (by rw [HF.out])) ⟨kd, rfl⟩
  · have HF := hd (show r = false by rw [← HR.out]; exact sameL_ne_len (by rw [HL.out, HM.out]; exact hab))
    have hx : ((a : Int) != (b : Int)) = true := by simp; omega
    have hy : ((a : Int) == (b : Int)) = false := by simp; omega
    clear hab
    go_enter Try.func75, Try.ntmps75
    go_wp2
    go_ret
    exact ret_quiet (bool_eq (by rw [HF.out])) ⟨0, rfl⟩

set_option maxRecDepth 4000 in
theorem same_any (A B : Option Addr) (l m : List Int) (a b c d : Nat) (r : Bool) (hr : sameL l m = r) (w : World) (ha : l.length = a) (hb : m.length = b) (hl : a ≤ 9223372036854775807) (hm : b ≤ 9223372036854775807) (hp : VL w w.heap.size A (rv l)) (hq : VL w w.heap.size B (rv m)) :
    Calls Try.prog 70 #[.slice A a c, .slice B b d] w (Quiet (.bool r) w) := by
  have HC := hd (equal_any A B l m a b c d r hr w ha hb hl hm hp hq)
  clear hr ha hb hp hq
  go_enter Try.func70, Try.ntmps70
  go_wp2_with fail
  refine HC.out.mono ?_
  rintro e w' ⟨rfl, kd, rfl⟩
  go_wp2
  go_ret
  exact ret_quiet rfl (by first | exact ⟨_, rfl⟩ | exact ⟨_, World.drewN_drewN _ _ _⟩ | exact ⟨_, (World.drewN_drewN _ _ _).trans (World.drewN_drewN _ _ _)⟩)

end Go.Proofs.Ytdjajpookmmafaa
