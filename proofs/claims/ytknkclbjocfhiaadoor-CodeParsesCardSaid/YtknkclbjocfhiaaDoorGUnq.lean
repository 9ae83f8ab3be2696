/- Strings read: a digit, a number, a rune, a text. -/
import Derived.Test.YtknkclbjocfhiaaDoorGQuote
namespace Go.Proofs.YtknkclbjocfhiaaDoor
open Go.RowKit

set_option maxHeartbeats 1000000 in
theorem digit_no (b : UInt8) (w : World) (h : isH b = false) : Calls Tryd.prog 111 #[.int .u8 b.toNat] w (Pure (.tuple #[.int .i32 0, .bool false]) w) := by
  have h' : ¬ (48 ≤ b.toNat ∧ b.toNat ≤ 57 ∨ 97 ≤ b.toNat ∧ b.toNat ≤ 102) := fun e => by rw [(isH_iff b).2 e] at h; cases h
  obtain ⟨x, hx⟩ : ∃ x, b.toNat = x := ⟨_, rfl⟩
  rw [hx] at h' ⊢
  clear hx h
  rcases (show x < 48 ∨ (57 < x ∧ x < 97) ∨ 102 < x by omega) with h | ⟨h, h2⟩ | h
  all_goals
    first | have g1 : (48 : Int) ≤ x := by omega | have g1 : (x : Int) < 48 := by omega
    first | have g2 : (x : Int) ≤ 57 := by omega | have g2 : 57 < (x : Int) := by omega
    first | have g3 : (97 : Int) ≤ x := by omega | have g3 : (x : Int) < 97 := by omega
    first | have g4 : (x : Int) ≤ 102 := by omega | have g4 : 102 < (x : Int) := by omega
    clear h'
    go_enter Tryd.func111, Tryd.ntmps111
    go_wp2
    go_ret2
    exact pure_ret rfl
set_option maxRecDepth 4000 in
theorem pair_eq {a b : Int} {v : Value} (h : a = b) : Value.tuple #[.int .i32 a, v] = .tuple #[.int .i32 b, v] := by rw [h]
set_option maxRecDepth 4000 in
set_option maxHeartbeats 1000000 in
theorem digit_yes (b : UInt8) (w : World) (h : isH b = true) : Calls Tryd.prog 111 #[.int .u8 b.toNat] w (Pure (.tuple #[.int .i32 (hval b), .bool true]) w) := by
  have h' := (isH_iff b).1 h
  have hv : hval b = if b.toNat ≤ 57 then b.toNat - 48 else b.toNat - 87 := rfl
  obtain ⟨x, hx⟩ : ∃ x, b.toNat = x := ⟨_, rfl⟩
  rw [hx] at h' hv ⊢
  have HV := hd hv
  clear hx h hv
  rcases h' with ⟨h, h2⟩ | ⟨h, h2⟩
  · have g1 : (48 : Int) ≤ x := by omega
    have g2 : (x : Int) ≤ 57 := by omega
    go_enter Tryd.func111, Tryd.ntmps111
    go_wp2
    go_ret2
    exact pure_ret (pair_eq (by rw [HV.out, if_pos h2]; omega))
  · have g1 : (48 : Int) ≤ x := by omega
    have g2 : 57 < (x : Int) := by omega
    have g3 : (97 : Int) ≤ x := by omega
    have g4 : (x : Int) ≤ 102 := by omega
    go_enter Tryd.func111, Tryd.ntmps111
    go_wp2
    go_ret2
    exact pure_ret (pair_eq (by rw [HV.out, if_neg (by omega)]; omega))

/-- The digits with which a string begins, as readNumber tells them. -/
def numL (s : List UInt8) : Nat × Nat := if 1 < (run6 s).length ∧ s.head? = some 48 then (0, 0) else (val (run6 s), (run6 s).length)
set_option maxRecDepth 4000 in
theorem val_lt (d : List UInt8) (h : ∀ b ∈ d, isH b = true) : val d < 16 ^ d.length := by
  obtain ⟨m, hm⟩ : ∃ m, m = d.length := ⟨_, rfl⟩
  induction m generalizing d with
  | zero => have := List.eq_nil_of_length_eq_zero hm.symm; subst this; decide
  | succ m ih =>
    rcases List.eq_nil_or_concat d with rfl | ⟨d', b, rfl⟩
    · simp at hm
    · rw [List.concat_eq_append] at *
      have h1 := ih d' (fun x hx => h x (by simp [hx])) (by simpa using hm)
      have h2 := (dg_hval b (h b (by simp))).1
      rw [val_append, List.length_append, Nat.pow_add]
      simp only [List.length_cons, List.length_nil]
      omega
set_option maxRecDepth 4000 in
theorem run6_of (s : List UInt8) (n : Nat) (h6 : n ≤ 6) (hn : n ≤ s.length) (h : ∀ j, j < n → ∃ b, s[j]? = some b ∧ isH b = true) (hs : n < 6 → ∀ b, s[n]? = some b → isH b = false) : run6 s = s.take n := by
  have e := run6_stop (s.take n) (s.drop n) (by simp; omega) (fun b hb => by
    obtain ⟨j, hj, rfl⟩ := List.mem_iff_getElem.1 hb
    have hj' : j < n := by simp at hj; omega
    obtain ⟨b, e1, e2⟩ := h j hj'
    have : (s.take n)[j] = b := by
      rw [List.getElem_take]
      have := (List.getElem?_eq_some_iff.1 e1).2
      exact this
    rw [this]; exact e2) (fun hl b hb => hs (by simp at hl; omega) b (by rw [← hb, List.head?_drop]))
  rwa [List.take_append_drop] at e
set_option maxRecDepth 4000 in
theorem at_data (s : ByteArray) (k : Nat) (h : k < s.size) : s.data.toList[k]? = some s[k] := by
  rw [List.getElem?_eq_getElem (by simpa using h)]; rfl
set_option maxRecDepth 4000 in
theorem take_snoc (s : ByteArray) (k : Nat) (h : k < s.size) : s.data.toList.take (k + 1) = s.data.toList.take k ++ [s[k]] := by
  rw [List.take_succ_eq_append_getElem (by simpa using h)]; rfl
set_option maxRecDepth 4000 in
theorem join4 (x y : Nat) (hx : x < 1048576) (hy : y < 16) : bits .or .i32 ((x : Int) * 16) (y : Int) = ((x * 16 + y : Nat) : Int) := by
  rw [bits_join .i32 31 (by decide) wraps_i32 4 ((x : Int) * 16) (y : Int) (by omega) (by omega) (by omega) (by omega) (by omega) (by omega)]
  omega

set_option maxRecDepth 4000 in
theorem data_len (s : ByteArray) : s.data.toList.length = s.size := by show _ = s.data.size; simp
set_option maxRecDepth 4000 in
theorem num_ret {s : List UInt8} {a b : Int} {w : World} (h1 : a = (numL s).1) (h2 : b = (numL s).2) : Pure (.tuple #[.int .i32 (numL s).1, .int .i64 (numL s).2]) w (.returned (.tuple #[.int .i32 a, .int .i64 b])) w := ⟨by rw [h1, h2], rfl⟩
set_option maxRecDepth 4000 in
set_option maxHeartbeats 4000000 in
theorem readNumber_any (s : ByteArray) (w : World) (hs : s.size ≤ 100000) :
    Calls Tryd.prog 104 #[.string s] w (Pure (.tuple #[.int .i32 (numL s.data.toList).1, .int .i64 (numL s.data.toList).2]) w) := by
  have HS := hd (data_len s)
  go_enter Tryd.func104, Tryd.ntmps104
  go_wp2
  go_loop [2, 3] (fun c i => ∃ k : Nat, k ≤ s.size ∧ k ≤ 6 ∧ i = .int .i64 k ∧ c = .int .i32 (val (s.data.toList.take k)) ∧ Hid (∀ j, j < k → ∃ b, s.data.toList[j]? = some b ∧ isH b = true)) (fun _ i => 6 - (intOf i).toNat)
  case atStart => exact ⟨0, Nat.zero_le _, by omega, rfl, rfl, fun j hj => absurd hj (Nat.not_lt_zero _)⟩
  case round =>
    obtain ⟨k, hk, hk6, rfl, rfl, HA⟩ := hrel
    by_cases hgo : k < s.size ∧ k < 6 ∧ ∀ b, s.data.toList[k]? = some b → isH b = true
    · obtain ⟨h1, h2, h3⟩ := hgo
      have hH := h3 _ (at_data s k h1)
      have HD := hd (digit_yes s[k] w hH)
      have HB := one_more (p := fun j => ∃ b, s.data.toList[j]? = some b ∧ isH b = true) HA ⟨_, at_data s k h1, hH⟩
      have hvl : val (s.data.toList.take k) < 1048576 := by
        have := val_lt (s.data.toList.take k) (fun b hb => by
          obtain ⟨j, hj, rfl⟩ := List.mem_iff_getElem.1 hb
          obtain ⟨b, e1, e2⟩ := HA.out j (by simp at hj; omega)
          have : (s.data.toList.take k)[j] = b := by
            rw [List.getElem_take]; exact (List.getElem?_eq_some_iff.1 e1).2
          rw [this]; exact e2)
        have hle : (s.data.toList.take k).length ≤ 5 := by simp; omega
        have := Nat.pow_le_pow_right (n := 16) (by omega) hle
        omega
      have hj := join4 _ (hval s[k]) hvl (dg_hval s[k] hH).1
      have HV := hd (show val (s.data.toList.take (k + 1)) = val (s.data.toList.take k) * 16 + hval s[k] by rw [take_snoc s k h1, val_append])
      have h2i : (k : Int) < 6 := by omega
      clear h3 hH HA
      go_wp2_with (go_at_call 111; refine HD.out.mono ?_; rintro e w' ⟨rfl, rfl⟩)
      go_round
      case rel => exact ⟨k + 1, by omega, by omega, by go_num, by rw [HV.out]; exact int_eq (by omega), HB⟩
      case measure => simp [intOf]; omega
    · have HR := hd (run6_of s.data.toList k hk6 (by rw [HS.out]; exact hk) HA.out (fun h6 b hb => by
        cases hh : isH b
        · rfl
        · exfalso
          refine hgo ⟨?_, h6, fun b' hb' => ?_⟩
          · have := (List.getElem?_eq_some_iff.1 hb).1; rw [HS.out] at this; exact this
          · rw [hb] at hb'; injection hb' with hb'; rw [← hb']; exact hh))
      have HL := hd (show (s.data.toList.take k).length = k by have := HS.out; simp; omega)
      have HD : k < s.size → k < 6 → ∃ h : k < s.size, isH s[k] = false := fun h1 h2 => ⟨h1, by
        cases hh : isH s[k]
        · rfl
        · exact absurd ⟨h1, h2, fun b hb => by rw [at_data s k h1] at hb; injection hb with hb; rw [← hb]; exact hh⟩ hgo⟩
      have HDi := hd HD
      clear hgo HA HD
      by_cases hk1 : 1 < k
      · have hs0 : 0 < s.size := by omega
        cases hz : ((s[0].toNat : Int) == 48)
        · have HN := hd (show numL s.data.toList = (val (s.data.toList.take k), k) by
            unfold numL
            rw [HR.out, HL.out, if_neg]
            rintro ⟨_, h⟩
            rw [List.head?_eq_getElem?, at_data s 0 hs0] at h
            injection h with h
            rw [h] at hz
            exact absurd hz (by decide))
          have hz' : ((s[0].toNat : Int) != 48) = true := by simp only [bne, hz]; rfl
          rcases (show s.size ≤ k ∨ (k < s.size ∧ 6 ≤ k) ∨ (k < s.size ∧ k < 6) by omega) with h | ⟨h, h2⟩ | ⟨h, h2⟩
          · have g : decide (k < s.size) = false := decide_eq_false (by omega)
            go_wp2
            go_ret2
            exact num_ret (by rw [HN.out] <;> rfl) (by rw [HN.out] <;> rfl)
          · have g : decide ((k : Int) < 6) = false := decide_eq_false (by omega)
            go_wp2
            go_ret2
            exact num_ret (by rw [HN.out] <;> rfl) (by rw [HN.out] <;> rfl)
          · obtain ⟨_, hH⟩ := HDi.out h h2
            have HX := hd (digit_no s[k] w hH)
            have h2i : (k : Int) < 6 := by omega
            clear hH
            go_wp2_with (go_at_call 111; refine HX.out.mono ?_; rintro e w' ⟨rfl, rfl⟩)
            go_ret2
            exact num_ret (by rw [HN.out] <;> rfl) (by rw [HN.out] <;> rfl)
        · have HN := hd (show numL s.data.toList = (0, 0) by
            unfold numL
            rw [HR.out, HL.out, if_pos]
            refine ⟨hk1, ?_⟩
            rw [List.head?_eq_getElem?, at_data s 0 hs0]
            have h0 : (s[0].toNat : Int) = 48 := by simpa using hz
            have h : s[0].toNat = 48 := by omega
            rw [show s[0] = UInt8.ofNat s[0].toNat by simp, h]; rfl)
          have he : (s[0].toNat : Int) = 48 := by simpa using hz
          clear hz
          rcases (show s.size ≤ k ∨ (k < s.size ∧ 6 ≤ k) ∨ (k < s.size ∧ k < 6) by omega) with h | ⟨h, h2⟩ | ⟨h, h2⟩
          · have g : decide (k < s.size) = false := decide_eq_false (by omega)
            go_wp2
            go_ret2
            exact num_ret (by rw [HN.out] <;> rfl) (by rw [HN.out] <;> rfl)
          · have g : decide ((k : Int) < 6) = false := decide_eq_false (by omega)
            go_wp2
            go_ret2
            exact num_ret (by rw [HN.out] <;> rfl) (by rw [HN.out] <;> rfl)
          · obtain ⟨_, hH⟩ := HDi.out h h2
            have HX := hd (digit_no s[k] w hH)
            have h2i : (k : Int) < 6 := by omega
            clear hH
            go_wp2_with (go_at_call 111; refine HX.out.mono ?_; rintro e w' ⟨rfl, rfl⟩)
            go_ret2
            exact num_ret (by rw [HN.out] <;> rfl) (by rw [HN.out] <;> rfl)
      · have HN := hd (show numL s.data.toList = (val (s.data.toList.take k), k) by
          unfold numL
          rw [HR.out, HL.out, if_neg (fun h => hk1 h.1)])
        have hk1' : decide (1 < (k : Int)) = false := decide_eq_false (by omega)
        rcases (show s.size ≤ k ∨ (k < s.size ∧ 6 ≤ k) ∨ (k < s.size ∧ k < 6) by omega) with h | ⟨h, h2⟩ | ⟨h, h2⟩
        · have g : decide (k < s.size) = false := decide_eq_false (by omega)
          go_wp2
          go_ret2
          exact num_ret (by rw [HN.out] <;> rfl) (by rw [HN.out] <;> rfl)
        · have g : decide ((k : Int) < 6) = false := decide_eq_false (by omega)
          go_wp2
          go_ret2
          exact num_ret (by rw [HN.out] <;> rfl) (by rw [HN.out] <;> rfl)
        · obtain ⟨_, hH⟩ := HDi.out h h2
          have HX := hd (digit_no s[k] w hH)
          have h2i : (k : Int) < 6 := by omega
          clear hH
          go_wp2_with (go_at_call 111; refine HX.out.mono ?_; rintro e w' ⟨rfl, rfl⟩)
          go_ret2
          exact num_ret (by rw [HN.out] <;> rfl) (by rw [HN.out] <;> rfl)

end Go.Proofs.YtknkclbjocfhiaaDoor
