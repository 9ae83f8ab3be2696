/- The calls on single bytes and on keys and values answer what the plain functions say; the world stays as it was. -/
import Derived.Test.YtknkclbjocfhiaaDoorGMem
import Derived.Test.YtknkclbjocfhiaaDoorPSpec
namespace Go.Proofs.YtknkclbjocfhiaaDoor
open Go.RowKit


theorem letter_any (c : UInt8) (w : World) : Calls Tryd.prog 91 #[.int .u8 (c.toNat : Int)] w fun e w' => e = .returned (.bool (isLet c)) ∧ w = w' := by
  by_cases h1 : (97 : Int) ≤ (c.toNat : Int)
  · go_enter Tryd.func91, Tryd.ntmps91
    go_wp2
    go_ret
    exact ⟨ret_bool (by unfold isLet; simp [h1]), rfl⟩
  · have h2 : decide ((97 : Int) ≤ (c.toNat : Int)) = false := by simpa using h1
    go_enter Tryd.func91, Tryd.ntmps91
    go_wp2
    go_ret
    exact ⟨ret_bool (by unfold isLet; simp; omega), rfl⟩

set_option maxRecDepth 4000 in
theorem digit_any (c : UInt8) (w : World) : Calls Tryd.prog 92 #[.int .u8 (c.toNat : Int)] w fun e w' => e = .returned (.bool (isDig c)) ∧ w = w' := by
  by_cases h1 : (48 : Int) ≤ (c.toNat : Int)
  · go_enter Tryd.func92, Tryd.ntmps92
    go_wp2
    go_ret
    exact ⟨ret_bool (by unfold isDig; simp [h1]), rfl⟩
  · have h2 : decide ((48 : Int) ≤ (c.toNat : Int)) = false := by simpa using h1
    go_enter Tryd.func92, Tryd.ntmps92
    go_wp2
    go_ret
    exact ⟨ret_bool (by unfold isDig; simp; omega), rfl⟩

set_option maxRecDepth 4000 in
theorem letter_is (c : UInt8) (b : Bool) (h : isLet c = b) (w : World) : Calls Tryd.prog 91 #[.int .u8 (c.toNat : Int)] w fun e w' => e = .returned (.bool b) ∧ w = w' := h ▸ letter_any c w
set_option maxRecDepth 4000 in
theorem digit_is (c : UInt8) (b : Bool) (h : isDig c = b) (w : World) : Calls Tryd.prog 92 #[.int .u8 (c.toNat : Int)] w fun e w' => e = .returned (.bool b) ∧ w = w' := h ▸ digit_any c w

set_option maxRecDepth 4000 in
/-- What all bytes of a text meet, told place by place. -/
theorem all_take (p : UInt8 → Bool) (s : ByteArray) (h : ∀ j (hj : j < s.size), p s[j] = true) : s.data.toList.all p = true := by
  rw [List.all_eq_true]
  intro x hx
  obtain ⟨j, hj, rfl⟩ := List.mem_iff_getElem.1 hx
  exact h j (by simpa using hj)

set_option maxRecDepth 4000 in
theorem all_fails (p : UInt8 → Bool) (s : ByteArray) (j : Nat) (hj : j < s.size) (h : p s[j] = false) : s.data.toList.all p = false := by
  cases hh : s.data.toList.all p
  · rfl
  · rw [List.all_eq_true] at hh
    have hj' : j < s.data.toList.length := by simpa using hj
    have e : p s[j] = true := hh _ (List.getElem_mem hj')
    rw [h] at e
    cases e

set_option maxRecDepth 4000 in
theorem more (p : UInt8 → Bool) (s : ByteArray) (k : Nat) (hk : k < s.size) (h : Hid (∀ j (hj : j < s.size), j < k → p s[j] = true)) (hp : p s[k] = true) : Hid (∀ j (hj : j < s.size), j < k + 1 → p s[j] = true) := by
  intro j hj hl
  by_cases e : j = k
  · subst e; exact hp
  · exact h.out j hj (by omega)

set_option maxRecDepth 4000 in
theorem dec_no {p : Prop} [Decidable p] (h : ¬ p) : decide p = false := by simpa using h

set_option maxRecDepth 4000 in
set_option maxHeartbeats 400000 in
theorem key_any (s : ByteArray) (w : World) (hs : s.size ≤ 9223372036854775807) : Calls Tryd.prog 81 #[.string s] w fun e w' => e = .returned (.bool (keyB s)) ∧ w = w' := by
  by_cases h1 : (s.size : Int) < 1
  · go_enter Tryd.func81, Tryd.ntmps81
    go_wp2
    go_ret
    exact ⟨ret_bool (by unfold keyB; rw [dec_no (show ¬ 1 ≤ s.size by omega)]; rfl), rfl⟩
  · by_cases h2 : (16 : Int) < (s.size : Int)
    · go_enter Tryd.func81, Tryd.ntmps81
      go_wp2
      go_ret
      exact ⟨ret_bool (by unfold keyB; rw [dec_no (show ¬ s.size ≤ 16 by omega)]; simp), rfl⟩
    · go_enter Tryd.func81, Tryd.ntmps81
      go_wp2
      go_loop [14] (fun i => ∃ k : Nat, k ≤ s.size ∧ i = .int .i64 k ∧ Hid (∀ j (hj : j < s.size), j < k → isLet s[j] = true)) (fun i => s.size - (intOf i).toNat)
      case atStart => exact ⟨0, Nat.zero_le _, rfl, fun j _ hj => absurd hj (Nat.not_lt_zero _)⟩
      case round =>
        obtain ⟨k, hk, rfl, HA⟩ := hrel
        by_cases hlt : k < s.size
        · cases hc : isLet s[k]
          · have hC := hd (letter_is s[k] _ hc w)
            have HF := hd (all_fails isLet s k hlt hc)
            clear hc
            go_wp2_with (go_at_call 91; refine hC.out.mono ?_; rintro e w' ⟨rfl, rfl⟩)
            go_ret
            exact ⟨ret_bool (by unfold keyB; rw [HF.out]; simp), rfl⟩
          · have hC := hd (letter_is s[k] _ hc w)
            have HF := more isLet s k hlt HA hc
            clear hc HA
            go_wp2_with (go_at_call 91; refine hC.out.mono ?_; rintro e w' ⟨rfl, rfl⟩)
            go_round
            case rel => exact ⟨k + 1, by omega, by go_num, HF⟩
            case measure => simp [intOf]; omega
        · go_wp2
          go_ret
          have hk' : k = s.size := by omega
          subst hk'
          exact ⟨ret_bool (by unfold keyB; rw [all_take _ _ (fun j hj => HA.out j hj hj)]; simp; omega), rfl⟩

set_option maxRecDepth 4000 in
set_option maxHeartbeats 400000 in
theorem rkey_any (s : ByteArray) (w : World) (hs : s.size ≤ 9223372036854775807) : Calls Tryd.prog 85 #[.string s] w fun e w' => e = .returned (.bool (keyB s)) ∧ w = w' := by
  go_enter Tryd.func85, Tryd.ntmps85
  go_wp2
  go_loop [6] (fun i => ∃ k : Nat, k ≤ s.size ∧ i = .int .i64 k ∧ Hid (∀ j (hj : j < s.size), j < k → isLet s[j] = true)) (fun i => s.size - (intOf i).toNat)
  case atStart => exact ⟨0, Nat.zero_le _, rfl, fun j _ hj => absurd hj (Nat.not_lt_zero _)⟩
  case round =>
    obtain ⟨k, hk, rfl, HA⟩ := hrel
    by_cases hlt : k < s.size
    · by_cases ha : (s[k].toNat : Int) < 97
      · have HF := hd (all_fails isLet s k hlt (by unfold isLet; simp; omega))
        go_wp2
        go_ret
        exact ⟨ret_bool (by unfold keyB; rw [HF.out]; simp), rfl⟩
      · by_cases hb : (122 : Int) < (s[k].toNat : Int)
        · have HF := hd (all_fails isLet s k hlt (by unfold isLet; simp; omega))
          go_wp2
          go_ret
          exact ⟨ret_bool (by unfold keyB; rw [HF.out]; simp), rfl⟩
        · have HF := more isLet s k hlt HA (by unfold isLet; simp; omega)
          clear HA
          go_wp2
          go_round
          case rel => exact ⟨k + 1, by omega, by go_num, HF⟩
          case measure => simp [intOf]; omega
    · obtain rfl : k = s.size := by omega
      have HF := hd (all_take isLet s (fun j hj => HA.out j hj hj))
      clear HA
      by_cases h1 : (1 : Int) ≤ (s.size : Int)
      · go_wp2
        go_ret
        exact ⟨ret_bool (by unfold keyB; rw [HF.out, Bool.eq_iff_iff]; simp; omega), rfl⟩
      · have h1' : decide ((1 : Int) ≤ (s.size : Int)) = false := dec_no h1
        go_wp2
        go_ret
        exact ⟨ret_bool (by unfold keyB; rw [dec_no (show ¬ 1 ≤ s.size by omega)]; rfl), rfl⟩

set_option maxRecDepth 4000 in
set_option maxHeartbeats 1000000 in
theorem val_any (s : ByteArray) (w : World) (hs : s.size ≤ 9223372036854775807) : Calls Tryd.prog 82 #[.string s] w fun e w' => e = .returned (.bool (valB s)) ∧ w = w' := by
  by_cases h2 : (32 : Int) < (s.size : Int)
  · go_enter Tryd.func82, Tryd.ntmps82
    go_wp2
    go_ret
    exact ⟨ret_bool (by unfold valB; rw [dec_no (show ¬ s.size ≤ 32 by omega)]; simp), rfl⟩
  · go_enter Tryd.func82, Tryd.ntmps82
    go_wp2
    go_loop [10] (fun i => ∃ k : Nat, k ≤ s.size ∧ i = .int .i64 k ∧ Hid (∀ j (hj : j < s.size), j < k → isVal s[j] = true)) (fun i => s.size - (intOf i).toNat)
    case atStart => exact ⟨0, Nat.zero_le _, rfl, fun j _ hj => absurd hj (Nat.not_lt_zero _)⟩
    case round =>
      obtain ⟨k, hk, rfl, HA⟩ := hrel
      by_cases hlt : k < s.size
      · cases hc : isLet s[k]
        · have hC := hd (letter_is s[k] _ hc w)
          cases hg : isDig s[k]
          · have hD := hd (digit_is s[k] _ hg w)
            cases he : ((s[k].toNat : Int) == 45)
            · have he' : ((s[k].toNat : Int) != 45) = true := by simpa using he
              have HF := hd (all_fails isVal s k hlt (by unfold isVal; rw [hc, hg, he]; rfl))
              clear hc hg HA
              go_wp2_with (first | (go_at_call 91; refine hC.out.mono ?_; rintro e w' ⟨rfl, rfl⟩) | (go_at_call 92; refine hD.out.mono ?_; rintro e w' ⟨rfl, rfl⟩))
              go_ret
              exact ⟨ret_bool (by unfold valB; rw [HF.out]; simp), rfl⟩
            · have he' : ((s[k].toNat : Int) != 45) = false := by simpa using he
              have HF := more isVal s k hlt HA (by unfold isVal; rw [hc, hg, he]; rfl)
              clear hc hg HA
              go_wp2_with (first | (go_at_call 91; refine hC.out.mono ?_; rintro e w' ⟨rfl, rfl⟩) | (go_at_call 92; refine hD.out.mono ?_; rintro e w' ⟨rfl, rfl⟩))
              go_round
              case rel => exact ⟨k + 1, by omega, by go_num, HF⟩
              case measure => simp [intOf]; omega
          · have hD := hd (digit_is s[k] _ hg w)
            have HF := more isVal s k hlt HA (by unfold isVal; rw [hc, hg]; rfl)
            clear hc hg HA
            go_wp2_with (first | (go_at_call 91; refine hC.out.mono ?_; rintro e w' ⟨rfl, rfl⟩) | (go_at_call 92; refine hD.out.mono ?_; rintro e w' ⟨rfl, rfl⟩))
            go_round
            case rel => exact ⟨k + 1, by omega, by go_num, HF⟩
            case measure => simp [intOf]; omega
        · have hC := hd (letter_is s[k] _ hc w)
          have HF := more isVal s k hlt HA (by unfold isVal; rw [hc]; rfl)
          clear hc HA
          go_wp2_with (go_at_call 91; refine hC.out.mono ?_; rintro e w' ⟨rfl, rfl⟩)
          go_round
          case rel => exact ⟨k + 1, by omega, by go_num, HF⟩
          case measure => simp [intOf]; omega
      · go_wp2
        go_ret
        have hk' : k = s.size := by omega
        subst hk'
        exact ⟨ret_bool (by unfold valB; rw [all_take _ _ (fun j hj => HA.out j hj hj)]; simp; omega), rfl⟩

set_option maxRecDepth 4000 in
theorem val_cases (c : UInt8) : isVal c = true ↔ ((97 ≤ (c.toNat : Int) ∧ (c.toNat : Int) ≤ 122) ∨ (48 ≤ (c.toNat : Int) ∧ (c.toNat : Int) ≤ 57) ∨ (c.toNat : Int) = 45) := by
  unfold isVal isLet isDig
  simp
  omega

set_option maxRecDepth 4000 in
theorem val_not {c : UInt8} (h : ¬ ((97 ≤ (c.toNat : Int) ∧ (c.toNat : Int) ≤ 122) ∨ (48 ≤ (c.toNat : Int) ∧ (c.toNat : Int) ≤ 57) ∨ (c.toNat : Int) = 45)) : isVal c = false := by
  cases hh : isVal c
  · rfl
  · exact absurd ((val_cases c).1 hh) h

set_option maxRecDepth 4000 in
set_option maxHeartbeats 1000000 in
theorem rval_any (s : ByteArray) (w : World) (hs : s.size ≤ 9223372036854775807) : Calls Tryd.prog 86 #[.string s] w fun e w' => e = .returned (.bool (valB s)) ∧ w = w' := by
  go_enter Tryd.func86, Tryd.ntmps86
  go_wp2
  go_loop [7] (fun i => ∃ k : Nat, k ≤ s.size ∧ i = .int .i64 k ∧ Hid (∀ j (hj : j < s.size), j < k → isVal s[j] = true)) (fun i => s.size - (intOf i).toNat)
  case atStart => exact ⟨0, Nat.zero_le _, rfl, fun j _ hj => absurd hj (Nat.not_lt_zero _)⟩
  case round =>
    obtain ⟨k, hk, rfl, HA⟩ := hrel
    by_cases hlt : k < s.size
    · by_cases ha : (97 : Int) ≤ (s[k].toNat : Int)
      · by_cases hb : (s[k].toNat : Int) ≤ 122
        · have HF := more isVal s k hlt HA ((val_cases _).2 (by omega))
          clear HA
          go_wp2
          go_round
          case rel => exact ⟨k + 1, by omega, by go_num, HF⟩
          case measure => simp [intOf]; omega
        · have HF := hd (all_fails isVal s k hlt (val_not (by omega)))
          have hx : (48 : Int) ≤ (s[k].toNat : Int) := by omega
          have hx2 : ¬ (s[k].toNat : Int) ≤ 57 := by omega
          have hx3 : ((s[k].toNat : Int) == 45) = false := by simp; omega
          clear HA
          go_wp2
          go_ret
          exact ⟨ret_bool (by unfold valB; rw [HF.out]; simp), rfl⟩
      · have ha' : decide ((97 : Int) ≤ (s[k].toNat : Int)) = false := dec_no ha
        by_cases hx : (48 : Int) ≤ (s[k].toNat : Int)
        · by_cases hx2 : (s[k].toNat : Int) ≤ 57
          · have HF := more isVal s k hlt HA ((val_cases _).2 (by omega))
            clear HA
            go_wp2
            go_round
            case rel => exact ⟨k + 1, by omega, by go_num, HF⟩
            case measure => simp [intOf]; omega
          · have HF := hd (all_fails isVal s k hlt (val_not (by omega)))
            have hx3 : ((s[k].toNat : Int) == 45) = false := by simp; omega
            clear HA
            go_wp2
            go_ret
            exact ⟨ret_bool (by unfold valB; rw [HF.out]; simp), rfl⟩
        · have hx' : decide ((48 : Int) ≤ (s[k].toNat : Int)) = false := dec_no hx
          cases hx3 : ((s[k].toNat : Int) == 45)
          · have HF := hd (all_fails isVal s k hlt (val_not (by have : ¬ (s[k].toNat : Int) = 45 := by simpa using hx3
                                                                omega)))
            clear HA
            go_wp2
            go_ret
            exact ⟨ret_bool (by unfold valB; rw [HF.out]; simp), rfl⟩
          · have HF := more isVal s k hlt HA ((val_cases _).2 (by have : (s[k].toNat : Int) = 45 := by simpa using hx3
                                                                  omega))
            clear HA
            go_wp2
            go_round
            case rel => exact ⟨k + 1, by omega, by go_num, HF⟩
            case measure => simp [intOf]; omega
    · obtain rfl : k = s.size := by omega
      have HF := hd (all_take isVal s (fun j hj => HA.out j hj hj))
      clear HA
      go_wp2
      go_ret
      exact ⟨ret_bool (by unfold valB; rw [HF.out]; simp; omega), rfl⟩

end Go.Proofs.YtknkclbjocfhiaaDoor
