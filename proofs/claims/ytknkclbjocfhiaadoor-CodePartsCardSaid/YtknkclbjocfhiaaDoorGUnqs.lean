/- Strings read: a digit, a number, a rune, a text. A rune read at a string's begin. A string read as a text. -/
import Derived.Test.YtknkclbjocfhiaaDoorGQuote
namespace Go.Proofs.YtknkclbjocfhiaaDoor
open Go.RowKit

set_option maxHeartbeats 1000000 in
theorem digit_no (b : UInt8) (w : World) (h : isH b = false) : Calls Tryd.prog 111 #[.int .u8 b.toNat] w (Pure (.tuple #[.int .i32 0, .bool false]) w) := by
  have h' : ¬ (48 ≤ b.toNat ∧ b.toNat ≤ 57 ∨ 97 ≤ b.toNat ∧ b.toNat ≤ 102) := fun e => by rw [(isH_iff b).2 e] at h; cases h
  obtain ⟨x, hx⟩ : ∃ x, b.toNat = x := ⟨_, rfl⟩
  rw [hx] at h' ⊢
  clear hx h
  rcases (show x < 48 ∨ (57 < x ∧ x < 97) ∨ 102 < x by omega) with h | ⟨h, h2⟩ | h
  all_goals
    first | have g1 : (48 : Int) ≤ x := by omega | have g1 : (x : Int) < 48 := by omega
    first | have g2 : (x : Int) ≤ 57 := by omega | have g2 : 57 < (x : Int) := by omega
    first | have g3 : (97 : Int) ≤ x := by omega | have g3 : (x : Int) < 97 := by omega
    first | have g4 : (x : Int) ≤ 102 := by omega | have g4 : 102 < (x : Int) := by omega
    clear h'
    go_enter Tryd.func111, Tryd.ntmps111
    go_wp2
    go_ret2
    exact pure_ret rfl
set_option maxRecDepth 4000 in
theorem pair_eq {a b : Int} {v : Value} (h : a = b) : Value.tuple #[.int .i32 a, v] = .tuple #[.int .i32 b, v] := by rw [h]
set_option maxRecDepth 4000 in
set_option maxHeartbeats 1000000 in
theorem digit_yes (b : UInt8) (w : World) (h : isH b = true) : Calls Tryd.prog 111 #[.int .u8 b.toNat] w (Pure (.tuple #[.int .i32 (hval b), .bool true]) w) := by
  have h' := (isH_iff b).1 h
  have hv : hval b = if b.toNat ≤ 57 then b.toNat - 48 else b.toNat - 87 := rfl
  obtain ⟨x, hx⟩ : ∃ x, b.toNat = x := ⟨_, rfl⟩
  rw [hx] at h' hv ⊢
  have HV := hd hv
  clear hx h hv
  rcases h' with ⟨h, h2⟩ | ⟨h, h2⟩
  · have g1 : (48 : Int) ≤ x := by omega
    have g2 : (x : Int) ≤ 57 := by omega
    go_enter Tryd.func111, Tryd.ntmps111
    go_wp2
    go_ret2
    exact pure_ret (pair_eq (by rw [HV.out, if_pos h2]; omega))
  · have g1 : (48 : Int) ≤ x := by omega
    have g2 : 57 < (x : Int) := by omega
    have g3 : (97 : Int) ≤ x := by omega
    have g4 : (x : Int) ≤ 102 := by omega
    go_enter Tryd.func111, Tryd.ntmps111
    go_wp2
    go_ret2
    exact pure_ret (pair_eq (by rw [HV.out, if_neg (by omega)]; omega))

/-- The digits with which a string begins, as readNumber tells them. -/
def numL (s : List UInt8) : Nat × Nat := if 1 < (run6 s).length ∧ s.head? = some 48 then (0, 0) else (val (run6 s), (run6 s).length)
set_option maxRecDepth 4000 in
theorem val_lt (d : List UInt8) (h : ∀ b ∈ d, isH b = true) : val d < 16 ^ d.length := by
  obtain ⟨m, hm⟩ : ∃ m, m = d.length := ⟨_, rfl⟩
  induction m generalizing d with
  | zero => have := List.eq_nil_of_length_eq_zero hm.symm; subst this; decide
  | succ m ih =>
    rcases List.eq_nil_or_concat d with rfl | ⟨d', b, rfl⟩
    · simp at hm
    · rw [List.concat_eq_append] at *
      have h1 := ih d' (fun x hx => h x (by simp [hx])) (by simpa using hm)
      have h2 := (dg_hval b (h b (by simp))).1
      rw [val_append, List.length_append, Nat.pow_add]
      simp only [List.length_cons, List.length_nil]
      omega
set_option maxRecDepth 4000 in
theorem run6_of (s : List UInt8) (n : Nat) (h6 : n ≤ 6) (hn : n ≤ s.length) (h : ∀ j, j < n → ∃ b, s[j]? = some b ∧ isH b = true) (hs : n < 6 → ∀ b, s[n]? = some b → isH b = false) : run6 s = s.take n := by
  have e := run6_stop (s.take n) (s.drop n) (by simp; omega) (fun b hb => by
    obtain ⟨j, hj, rfl⟩ := List.mem_iff_getElem.1 hb
    have hj' : j < n := by simp at hj; omega
    obtain ⟨b, e1, e2⟩ := h j hj'
    have : (s.take n)[j] = b := by
      rw [List.getElem_take]
      have := (List.getElem?_eq_some_iff.1 e1).2
      exact this
    rw [this]; exact e2) (fun hl b hb => hs (by simp at hl; omega) b (by rw [← hb, List.head?_drop]))
  rwa [List.take_append_drop] at e
set_option maxRecDepth 4000 in
theorem at_data (s : ByteArray) (k : Nat) (h : k < s.size) : s.data.toList[k]? = some s[k] := by
  rw [List.getElem?_eq_getElem (by simpa using h)]; rfl
set_option maxRecDepth 4000 in
theorem take_snoc (s : ByteArray) (k : Nat) (h : k < s.size) : s.data.toList.take (k + 1) = s.data.toList.take k ++ [s[k]] := by
  rw [List.take_succ_eq_append_getElem (by simpa using h)]; rfl
set_option maxRecDepth 4000 in
theorem join4 (x y : Nat) (hx : x < 1048576) (hy : y < 16) : bits .or .i32 ((x : Int) * 16) (y : Int) = ((x * 16 + y : Nat) : Int) := by
  rw [bits_join .i32 31 (by decide) wraps_i32 4 ((x : Int) * 16) (y : Int) (by omega) (by omega) (by omega) (by omega) (by omega) (by omega)]
  omega

set_option maxRecDepth 4000 in
theorem data_len (s : ByteArray) : s.data.toList.length = s.size := by show _ = s.data.size; simp
set_option maxRecDepth 4000 in
theorem num_ret {s : List UInt8} {a b : Int} {w : World} (h1 : a = (numL s).1) (h2 : b = (numL s).2) : Pure (.tuple #[.int .i32 (numL s).1, .int .i64 (numL s).2]) w (.returned (.tuple #[.int .i32 a, .int .i64 b])) w := ⟨by rw [h1, h2], rfl⟩
set_option maxRecDepth 4000 in
set_option maxHeartbeats 4000000 in
theorem readNumber_any (s : ByteArray) (w : World) (hs : s.size ≤ 100000) :
    Calls Tryd.prog 104 #[.string s] w (Pure (.tuple #[.int .i32 (numL s.data.toList).1, .int .i64 (numL s.data.toList).2]) w) := by
  have HS := hd (data_len s)
  go_enter Tryd.func104, Tryd.ntmps104
  go_wp2
  go_loop [2, 3] (fun c i => ∃ k : Nat, k ≤ s.size ∧ k ≤ 6 ∧ i = .int .i64 k ∧ c = .int .i32 (val (s.data.toList.take k)) ∧ Hid (∀ j, j < k → ∃ b, s.data.toList[j]? = some b ∧ isH b = true)) (fun _ i => 6 - (intOf i).toNat)
  case atStart => exact ⟨0, Nat.zero_le _, by omega, rfl, rfl, fun j hj => absurd hj (Nat.not_lt_zero _)⟩
  case round =>
    obtain ⟨k, hk, hk6, rfl, rfl, HA⟩ := hrel
    by_cases hgo : k < s.size ∧ k < 6 ∧ ∀ b, s.data.toList[k]? = some b → isH b = true
    · obtain ⟨h1, h2, h3⟩ := hgo
      have hH := h3 _ (at_data s k h1)
      have HD := hd (digit_yes s[k] w hH)
      have HB := one_more (p := fun j => ∃ b, s.data.toList[j]? = some b ∧ isH b = true) HA ⟨_, at_data s k h1, hH⟩
      have hvl : val (s.data.toList.take k) < 1048576 := by
        have := val_lt (s.data.toList.take k) (fun b hb => by
          obtain ⟨j, hj, rfl⟩ := List.mem_iff_getElem.1 hb
          obtain ⟨b, e1, e2⟩ := HA.out j (by simp at hj; omega)
          have : (s.data.toList.take k)[j] = b := by
            rw [List.getElem_take]; exact (List.getElem?_eq_some_iff.1 e1).2
          rw [this]; exact e2)
        have hle : (s.data.toList.take k).length ≤ 5 := by simp; omega
        have := Nat.pow_le_pow_right (n := 16) (by omega) hle
        omega
      have hj := join4 _ (hval s[k]) hvl (dg_hval s[k] hH).1
      have HV := hd (show val (s.data.toList.take (k + 1)) = val (s.data.toList.take k) * 16 + hval s[k] by rw [take_snoc s k h1, val_append])
      have h2i : (k : Int) < 6 := by omega
      clear h3 hH HA
      go_wp2_with (go_at_call 111; refine HD.out.mono ?_; rintro e w' ⟨rfl, rfl⟩)
      go_round
      case rel => exact ⟨k + 1, by omega, by omega, by go_num, by rw [HV.out]; exact int_eq (by omega), HB⟩
      case measure => simp [intOf]; omega
    · have HR := hd (run6_of s.data.toList k hk6 (by rw [HS.out]; exact hk) HA.out (fun h6 b hb => by
        cases hh : isH b
        · rfl
        · exfalso
          refine hgo ⟨?_, h6, fun b' hb' => ?_⟩
          · have := (List.getElem?_eq_some_iff.1 hb).1; rw [HS.out] at this; exact this
          · rw [hb] at hb'; injection hb' with hb'; rw [← hb']; exact hh))
      have HL := hd (show (s.data.toList.take k).length = k by have := HS.out; simp; omega)
      have HD : k < s.size → k < 6 → ∃ h : k < s.size, isH s[k] = false := fun h1 h2 => ⟨h1, by
        cases hh : isH s[k]
        · rfl
        · exact absurd ⟨h1, h2, fun b hb => by rw [at_data s k h1] at hb; injection hb with hb; rw [← hb]; exact hh⟩ hgo⟩
      have HDi := hd HD
      clear hgo HA HD
      by_cases hk1 : 1 < k
      · have hs0 : 0 < s.size := by omega
        cases hz : ((s[0].toNat : Int) == 48)
        · have HN := hd (show numL s.data.toList = (val (s.data.toList.take k), k) by
            unfold numL
            rw [HR.out, HL.out, if_neg]
            rintro ⟨_, h⟩
            rw [List.head?_eq_getElem?, at_data s 0 hs0] at h
            injection h with h
            rw [h] at hz
            exact absurd hz (by decide))
          have hz' : ((s[0].toNat : Int) != 48) = true := by simp only [bne, hz]; rfl
          rcases (show s.size ≤ k ∨ (k < s.size ∧ 6 ≤ k) ∨ (k < s.size ∧ k < 6) by omega) with h | ⟨h, h2⟩ | ⟨h, h2⟩
          · have g : decide (k < s.size) = false := decide_eq_false (by omega)
            go_wp2
            go_ret2
            exact num_ret (by rw [HN.out] <;> rfl) (by rw [HN.out] <;> rfl)
          · have g : decide ((k : Int) < 6) = false := decide_eq_false (by omega)
            go_wp2
            go_ret2
            exact num_ret (by rw [HN.out] <;> rfl) (by rw [HN.out] <;> rfl)
          · obtain ⟨_, hH⟩ := HDi.out h h2
            have HX := hd (digit_no s[k] w hH)
            have h2i : (k : Int) < 6 := by omega
            clear hH
            go_wp2_with (go_at_call 111; refine HX.out.mono ?_; rintro e w' ⟨rfl, rfl⟩)
            go_ret2
            exact num_ret (by rw [HN.out] <;> rfl) (by rw [HN.out] <;> rfl)
        · have HN := hd (show numL s.data.toList = (0, 0) by
            unfold numL
            rw [HR.out, HL.out, if_pos]
            refine ⟨hk1, ?_⟩
            rw [List.head?_eq_getElem?, at_data s 0 hs0]
            have h0 : (s[0].toNat : Int) = 48 := by simpa using hz
            have h : s[0].toNat = 48 := by omega
            rw [show s[0] = UInt8.ofNat s[0].toNat by simp, h]; rfl)
          have he : (s[0].toNat : Int) = 48 := by simpa using hz
          clear hz
          rcases (show s.size ≤ k ∨ (k < s.size ∧ 6 ≤ k) ∨ (k < s.size ∧ k < 6) by omega) with h | ⟨h, h2⟩ | ⟨h, h2⟩
          · have g : decide (k < s.size) = false := decide_eq_false (by omega)
            go_wp2
            go_ret2
            exact num_ret (by rw [HN.out] <;> rfl) (by rw [HN.out] <;> rfl)
          · have g : decide ((k : Int) < 6) = false := decide_eq_false (by omega)
            go_wp2
            go_ret2
            exact num_ret (by rw [HN.out] <;> rfl) (by rw [HN.out] <;> rfl)
          · obtain ⟨_, hH⟩ := HDi.out h h2
            have HX := hd (digit_no s[k] w hH)
            have h2i : (k : Int) < 6 := by omega
            clear hH
            go_wp2_with (go_at_call 111; refine HX.out.mono ?_; rintro e w' ⟨rfl, rfl⟩)
            go_ret2
            exact num_ret (by rw [HN.out] <;> rfl) (by rw [HN.out] <;> rfl)
      · have HN := hd (show numL s.data.toList = (val (s.data.toList.take k), k) by
          unfold numL
          rw [HR.out, HL.out, if_neg (fun h => hk1 h.1)])
        have hk1' : decide (1 < (k : Int)) = false := decide_eq_false (by omega)
        rcases (show s.size ≤ k ∨ (k < s.size ∧ 6 ≤ k) ∨ (k < s.size ∧ k < 6) by omega) with h | ⟨h, h2⟩ | ⟨h, h2⟩
        · have g : decide (k < s.size) = false := decide_eq_false (by omega)
          go_wp2
          go_ret2
          exact num_ret (by rw [HN.out] <;> rfl) (by rw [HN.out] <;> rfl)
        · have g : decide ((k : Int) < 6) = false := decide_eq_false (by omega)
          go_wp2
          go_ret2
          exact num_ret (by rw [HN.out] <;> rfl) (by rw [HN.out] <;> rfl)
        · obtain ⟨_, hH⟩ := HDi.out h h2
          have HX := hd (digit_no s[k] w hH)
          have h2i : (k : Int) < 6 := by omega
          clear hH
          go_wp2_with (go_at_call 111; refine HX.out.mono ?_; rintro e w' ⟨rfl, rfl⟩)
          go_ret2
          exact num_ret (by rw [HN.out] <;> rfl) (by rw [HN.out] <;> rfl)

end Go.Proofs.YtknkclbjocfhiaaDoor

namespace Go.Proofs.YtknkclbjocfhiaaDoor
open Go.RowKit

theorem run6_head (t : List UInt8) (h : run6 t ≠ []) : (run6 t).head? = t.head? := by
  unfold run6 at *
  cases t with
  | nil => rfl
  | cons a t =>
    simp only [List.take_succ_cons, List.takeWhile_cons] at h ⊢
    split at h
    · rename_i ha; rw [if_pos ha]; rfl
    · exact absurd rfl h
set_option maxRecDepth 4000 in
theorem run6_len (t : List UInt8) : (run6 t).length ≤ 6 ∧ (run6 t).length ≤ t.length := by
  unfold run6
  have h1 := (List.takeWhile_prefix (p := isH) (l := t.take 6)).length_le
  simp at h1
  omega
set_option maxRecDepth 4000 in
theorem readL_num (t : List UInt8) (c n : Nat) (h : numL t = (c, n)) : readL (92 :: t) = if n ≠ 0 ∧ t[n]? = some 59 ∧ isR c = true ∧ isP c = false then ((c : Int), n + 2) else (0, 0) := by
  rw [readL_cons, if_pos rfl]
  unfold numL at h
  by_cases hb : 1 < (run6 t).length ∧ t.head? = some 48
  · rw [if_pos hb] at h
    simp only [Prod.mk.injEq] at h
    obtain ⟨rfl, rfl⟩ := h
    have hne : run6 t ≠ [] := by intro e; rw [e] at hb; simp at hb
    have hc : canon (run6 t) = false := by
      unfold canon
      rw [run6_head t hne, hb.2]
      have : (run6 t).length ≠ 1 := by omega
      simp [this]
    have he : escR t = none := by
      unfold escR
      rw [if_neg]
      rintro ⟨_, _, h3, _⟩
      rw [hc] at h3; cases h3
    rw [he]
    simp
  · rw [if_neg hb] at h
    simp only [Prod.mk.injEq] at h
    obtain ⟨rfl, rfl⟩ := h
    by_cases hne : run6 t = []
    · have he : escR t = none := by
        unfold escR
        rw [if_neg]
        rintro ⟨h0, _⟩
        exact h0 hne
      rw [he, hne]
      simp
    · have hl : (run6 t).length ≠ 0 := fun e => hne (List.eq_nil_of_length_eq_zero e)
      have hc : canon (run6 t) = true := by
        unfold canon
        rw [run6_head t hne]
        by_cases h1 : (run6 t).length = 1
        · simp [h1]
        · have : ¬ t.head? = some 48 := fun e => hb ⟨by omega, e⟩
          simp [this]
      unfold escR
      by_cases hall : t[(run6 t).length]? = some 59 ∧ isR (val (run6 t)) = true ∧ isP (val (run6 t)) = false
      · rw [if_pos ⟨hne, hall.1, hc, hall.2.1, hall.2.2⟩, if_pos ⟨hl, hall⟩]
      · rw [if_neg (fun e => hall ⟨e.2.1, e.2.2.2.1, e.2.2.2.2⟩), if_neg (fun e => hall e.2)]
set_option maxRecDepth 4000 in
theorem numL_le (t : List UInt8) (c n : Nat) (h : numL t = (c, n)) : n ≤ 6 ∧ n ≤ t.length ∧ c < 16777216 := by
  have h6 := run6_len t
  unfold numL at h
  split at h
  · simp only [Prod.mk.injEq] at h
    omega
  · simp only [Prod.mk.injEq] at h
    obtain ⟨rfl, rfl⟩ := h
    refine ⟨h6.1, h6.2, ?_⟩
    have := val_lt (run6 t) (fun b hb => by unfold run6 at hb; exact mem_while _ b hb)
    have := Nat.pow_le_pow_right (n := 16) (by omega) h6.1
    omega
set_option maxRecDepth 4000 in
theorem extract_drop (s : ByteArray) (k : Nat) : (s.extract k s.size).data.toList = s.data.toList.drop k := by
  have h := ByteArray.extract_mk s.data.toList k s.size
  have e : (s.data.toList.drop k).take (s.size - k) = s.data.toList.drop k := List.take_of_length_le (by rw [List.length_drop, data_len]; exact Nat.le_refl _)
  rw [e] at h
  exact congrArg (fun t : ByteArray => t.data.toList) h
set_option maxRecDepth 4000 in
theorem extract_size (s : ByteArray) (k : Nat) : (s.extract k s.size).size = s.size - k := by
  rw [← data_len, extract_drop, List.length_drop, data_len]
set_option maxRecDepth 4000 in
theorem data_cons (s : ByteArray) (h : 0 < s.size) : s.data.toList = s[0] :: s.data.toList.drop 1 := by
  have e := at_data s 0 h
  have hl := data_len s
  cases hx : s.data.toList with
  | nil => rw [hx] at hl; simp at hl; omega
  | cons a t => rw [hx] at e; simp at e; rw [e]; rfl

set_option maxRecDepth 4000 in
theorem rd_ret {s : List UInt8} {a b : Int} {w : World} {x : Int × Nat} (hx : readL s = x) (h1 : a = x.1) (h2 : b = x.2) : Pure (.tuple #[.int .i32 (readL s).1, .int .i64 (readL s).2]) w (.returned (.tuple #[.int .i32 a, .int .i64 b])) w := ⟨by rw [hx, h1, h2], rfl⟩

set_option maxRecDepth 4000 in
set_option maxHeartbeats 4000000 in
theorem readRune_any (s : ByteArray) (w : World) (h0 : 0 < s.size) (hs : s.size ≤ 100000) :
    Calls Tryd.prog 96 #[.string s] w (Pure (.tuple #[.int .i32 (readL s.data.toList).1, .int .i64 (readL s.data.toList).2]) w) := by
  have HD := hd (data_cons s h0)
  by_cases h92 : s[0] = 92
  · obtain ⟨c, n, hN⟩ : ∃ c n, numL (s.data.toList.drop 1) = (c, n) := ⟨_, _, rfl⟩
    have hle := numL_le _ c n hN
    have hl1 : (s.data.toList.drop 1).length = s.size - 1 := by rw [List.length_drop, data_len]
    rw [hl1] at hle
    obtain ⟨hn6, hnl, hc⟩ := hle
    have HL := readL_num (s.data.toList.drop 1) c n hN
    have HC := hd (readNumber_any (s.extract 1 s.size) w (by rw [extract_size]; omega))
    rw [extract_drop, hN] at HC
    rw [← h92, ← HD.out] at HL
    have hx : (s[0].toNat : Int) = 92 := by rw [h92]; rfl
    have h1s : (1 : Int) ≤ s.size := by omega
    have HLh := hd HL
    clear HL h92 hl1 hN
    by_cases hn0 : n = 0
    · subst hn0
      have HF := hd (show readL s.data.toList = (0, 0) by rw [HLh.out, if_neg (fun e => e.1 rfl)])
      go_enter Tryd.func96, Tryd.ntmps96
      go_wp2_with fail
      refine HC.out.mono ?_
      rintro e w' ⟨rfl, rfl⟩
      go_wp2
      go_ret2
      exact rd_ret HF.out rfl rfl
    · have g0 : ((n : Int) == 0) = false := by simp; omega
      by_cases hns : 1 + n = s.size
      · have HF := hd (show readL s.data.toList = (0, 0) by
          rw [HLh.out, if_neg]
          rintro ⟨_, e, _⟩
          have := (List.getElem?_eq_some_iff.1 e).1
          rw [List.length_drop, data_len] at this
          omega)
        have g1 : (1 + (n : Int) == (s.size : Int)) = true := by simp; omega
        clear hns
        go_enter Tryd.func96, Tryd.ntmps96
        go_wp2_with fail
        refine HC.out.mono ?_
        rintro e w' ⟨rfl, rfl⟩
        go_wp2
        go_ret2
        exact rd_ret HF.out rfl rfl
      · have g1 : (1 + (n : Int) == (s.size : Int)) = false := by simp; omega
        have g2 : 1 + n < s.size := by omega
        have hat : (s.data.toList.drop 1)[n]? = some s[1 + n] := by rw [List.getElem?_drop]; exact at_data s (1 + n) g2
        by_cases h59 : s[1 + n] = 59
        · have e59 : (s[1 + n].toNat : Int) = 59 := by rw [h59]; rfl
          have HA := hd (hat.trans (congrArg some h59))
          have HR := hd (isRune_any (c : Int) w)
          have HP := hd (isPlain_any (c : Int) w)
          clear hns hat h59
          cases hr : isR c
          · have HF := hd (show readL s.data.toList = (0, 0) by rw [HLh.out, if_neg (fun e => by rw [hr] at e; cases e.2.2.1)])
            rw [hr] at HR
            clear hr
            go_enter Tryd.func96, Tryd.ntmps96
            go_wp2_with fail
            refine HC.out.mono ?_
            rintro e w' ⟨rfl, rfl⟩
            go_wp2_with fail
            refine HR.out.mono ?_
            rintro e w' ⟨rfl, rfl⟩
            go_wp2
            go_ret2
            exact rd_ret HF.out rfl rfl
          · cases hp : isP c
            · have HF := hd (show readL s.data.toList = ((c : Int), n + 2) by rw [HLh.out, if_pos ⟨hn0, HA.out, hr, hp⟩])
              rw [hr] at HR
              rw [hp] at HP
              clear hr hp
              go_enter Tryd.func96, Tryd.ntmps96
              go_wp2_with fail
              refine HC.out.mono ?_
              rintro e w' ⟨rfl, rfl⟩
              go_wp2_with fail
              refine HR.out.mono ?_
              rintro e w' ⟨rfl, rfl⟩
              go_wp2_with fail
              refine HP.out.mono ?_
              rintro e w' ⟨rfl, rfl⟩
              go_wp2
              go_ret2
              exact rd_ret HF.out rfl (by simp; omega)
            · have HF := hd (show readL s.data.toList = (0, 0) by rw [HLh.out, if_neg (fun e => by rw [hp] at e; cases e.2.2.2)])
              rw [hr] at HR
              rw [hp] at HP
              clear hr hp
              go_enter Tryd.func96, Tryd.ntmps96
              go_wp2_with fail
              refine HC.out.mono ?_
              rintro e w' ⟨rfl, rfl⟩
              go_wp2_with fail
              refine HR.out.mono ?_
              rintro e w' ⟨rfl, rfl⟩
              go_wp2_with fail
              refine HP.out.mono ?_
              rintro e w' ⟨rfl, rfl⟩
              go_wp2
              go_ret2
              exact rd_ret HF.out rfl rfl
        · have hq : (s[1 + n].toNat : Int) ≠ 59 := fun e => h59 (by
            rw [show s[1 + n] = UInt8.ofNat s[1 + n].toNat by simp, show s[1 + n].toNat = 59 by omega]; rfl)
          have g3 : ((s[1 + n].toNat : Int) == 59) = false := by simpa using hq
          have g4 : ((s[1 + n].toNat : Int) != 59) = true := by simpa using hq
          have HF := hd (show readL s.data.toList = (0, 0) by
            rw [HLh.out, if_neg]
            rintro ⟨_, e, _⟩
            rw [hat] at e
            exact h59 (Option.some.inj e))
          clear hns hat h59 hq
          go_enter Tryd.func96, Tryd.ntmps96
          go_wp2_with fail
          refine HC.out.mono ?_
          rintro e w' ⟨rfl, rfl⟩
          go_wp2
          go_ret2
          exact rd_ret HF.out rfl rfl
  · have hq : (s[0].toNat : Int) ≠ 92 := fun e => h92 (by
      rw [show s[0] = UInt8.ofNat s[0].toNat by simp, show s[0].toNat = 92 by omega]; rfl)
    have HL : readL s.data.toList = if isP s[0].toNat then ((s[0].toNat : Int), 1) else (0, 0) := by
      rw [HD.out, readL_cons, if_neg h92]
    have hb := s[0].toNat_lt
    obtain ⟨x, hx⟩ : ∃ x : Int, (s[0].toNat : Int) = x := ⟨_, rfl⟩
    rw [hx] at hq HL
    have b1 : 0 ≤ x := by omega
    have b2 : x < 256 := by omega
    have g3 : (x == 92) = false := by simpa using hq
    have g4 : (x != 92) = true := by simpa using hq
    have HP := hd (isPlain_any x w)
    have HLh := hd HL
    clear HL hq h92 hb
    cases hp : isP x
    · have HF := hd (show readL s.data.toList = (0, 0) by rw [HLh.out, hp]; rfl)
      rw [hp] at HP
      clear hp
      go_enter Tryd.func96, Tryd.ntmps96
      go_wp2_with fail
      refine HP.out.mono ?_
      rintro e w' ⟨rfl, rfl⟩
      go_wp2
      go_ret2
      exact rd_ret HF.out rfl rfl
    · have HF := hd (show readL s.data.toList = (x, 1) by rw [HLh.out, hp]; rfl)
      rw [hp] at HP
      clear hp
      go_enter Tryd.func96, Tryd.ntmps96
      go_wp2_with fail
      refine HP.out.mono ?_
      rintro e w' ⟨rfl, rfl⟩
      go_wp2
      go_ret2
      exact rd_ret HF.out rfl rfl

end Go.Proofs.YtknkclbjocfhiaaDoor

namespace Go.Proofs.YtknkclbjocfhiaaDoor
open Go.RowKit

def UnqOk (r : List Int × Int × Int) (w : World) (e : Ending) (w' : World) : Prop := ∃ v, e = .returned (.tuple #[v, .int .i64 r.2.1, .int .i64 r.2.2]) ∧ OwnV 21 w' w.heap.size v (rv r.1) ∧ Below w.heap.size w w'
set_option maxRecDepth 4000 in
theorem unq_ret {w w' : World} {r : List Int × Int × Int} {l : List Int} {p e : Int} {v : Value} (h : r = (l, p, e)) (ho : OwnV 21 w' w.heap.size v (rv l)) (hb : Below w.heap.size w w') : UnqOk r w (.returned (.tuple #[v, .int .i64 p, .int .i64 e])) w' := by
  subst h; exact ⟨v, rfl, ho, hb⟩
set_option maxRecDepth 4000 in
theorem unq_err {w w' : World} {r : List Int × Int × Int} {p q : Int} (h : r = ([], q, 11)) (hp : p = q) (hb : Below w.heap.size w w') : UnqOk r w (.returned (.tuple #[.slice none 0 0, .int .i64 p, .int .i64 11])) w' := by
  subst h hp; exact ⟨_, rfl, OwnV.nil _ _, hb⟩
set_option maxRecDepth 4000 in
theorem drop_cons (s : ByteArray) (i : Nat) (h : i < s.size) : s.data.toList.drop i = s[i] :: s.data.toList.drop (i + 1) := by
  rw [List.drop_eq_getElem_cons (by rw [data_len]; exact h)]; rfl
set_option maxRecDepth 4000 in
theorem drop_all (s : ByteArray) (i : Nat) (h : s.size ≤ i) : s.data.toList.drop i = [] := List.drop_eq_nil_of_le (by rw [data_len]; exact h)
set_option maxRecDepth 4000 in
theorem empty_of (s : ByteArray) (h : s.size = 0) : s = ⟨#[]⟩ := by
  apply ByteArray.ext
  exact Array.eq_empty_of_size_eq_zero h
set_option maxRecDepth 4000 in
theorem byte_eq {b c : UInt8} (h : (b.toNat : Int) = c.toNat) : b = c := by
  have : b.toNat = c.toNat := by omega
  exact UInt8.toNat_inj.1 this

set_option maxRecDepth 4000 in
set_option maxHeartbeats 8000000 in
theorem unquote_any (s : ByteArray) (w : World) (hs : s.size ≤ 40000) :
    Calls Tryd.prog 90 #[.string s] w (UnqOk (unqL s.data.toList) w) := by
  rcases Nat.eq_zero_or_pos s.size with h0 | h0
  · have := empty_of s h0
    subst this
    clear h0 hs
    go_enter Tryd.func90, Tryd.ntmps90
    go_wp2
    go_ret3
    exact unq_err rfl rfl (Below.refl _ _)
  · have HC0 := drop_cons s 0 h0
    rw [List.drop_zero] at HC0
    have he : s.toList.isEmpty = false := by
      rw [ByteArray.toList_eq, HC0]; rfl
    have hb0 := s[0].toNat_lt
    obtain ⟨x0, hx0⟩ : ∃ x : Int, (s[0].toNat : Int) = x := ⟨_, rfl⟩
    by_cases h34 : s[0] = 34
    · have hU := hd (show unqL s.data.toList = unqA (s.data.toList.drop 1) 1 [] by rw [HC0, unqL_cons, if_pos h34]; rfl)
      have hx : x0 = 34 := by rw [← hx0, h34]; rfl
      subst hx
      clear HC0 h34 hb0
      go_enter Tryd.func90, Tryd.ntmps90
      go_wp2
      have h1 : 1 ≤ s.size := h0
      go_loopw [5, 6] (fun v i wr => ∃ (k : Nat) (out : List Int), 1 ≤ k ∧ k ≤ s.size ∧ i = .int .i64 k ∧ out.length ≤ k ∧ Hid (OwnV 21 wr w.heap.size v (rv out)) ∧ Below w.heap.size w wr ∧ Hid (unqL s.data.toList = unqA (s.data.toList.drop k) k out)) (fun _ i _ => s.size - (intOf i).toNat)
      case atStart => exact ⟨1, [], Nat.le_refl _, h1, rfl, by simp, OwnV.nil _ _, Below.refl _ _, hU⟩
      case round =>
        obtain ⟨k, out, hk1, hk, rfl, hol, ho, hb, HU⟩ := hrel
        by_cases hlt : k < s.size
        · have hdc := drop_cons s k hlt
          have hbk := s[k].toNat_lt
          obtain ⟨x, hx⟩ : ∃ x : Int, (s[k].toNat : Int) = x := ⟨_, rfl⟩
          by_cases h34 : s[k] = 34
          · have hx2 : x = 34 := by rw [← hx, h34]; rfl
            subst hx2
            have hg : ((k : Int) == (s.size : Int)) = false := by simp; omega
            by_cases hend : k + 1 = s.size
            · have HF := hd (show unqL s.data.toList = (out, 0, 0) by rw [HU.out, hdc, h34, drop_all s (k + 1) (by omega), unqA_last])
              have hg2 : ¬ k + 1 < s.size := by omega
              clear hdc h34 hend hbk
              go_wp2
              go_ret3
              exact unq_ret HF.out ho.out hb
            · have HF := hd (show unqL s.data.toList = ([], ((k + 1 : Nat) : Int), 11) by
                rw [HU.out, hdc, h34]
                exact unqA_more _ _ _ (fun e => by have := congrArg List.length e; rw [List.length_drop, data_len] at this; simp at this; omega))
              have hg2 : k + 1 < s.size := by omega
              clear hdc h34 hend hbk
              go_wp2
              go_ret3
              exact unq_err HF.out (by omega) hb
          · have hq : x ≠ 34 := fun e => h34 (byte_eq (by rw [hx, e]; rfl))
            have g3 : (x == 34) = false := by simpa using hq
            have g4 : (x != 34) = true := by simpa using hq
            obtain ⟨c, n, hc⟩ : ∃ c n, readL (s.data.toList.drop k) = (c, n) := ⟨_, _, rfl⟩
            have hR := readRune_any (s.extract k s.size) wr (by rw [extract_size]; omega) (by rw [extract_size]; omega)
            rw [extract_drop, hc] at hR
            have HR := hd hR
            clear hR
            by_cases hn : n = 0
            · subst hn
              have HF := hd (show unqL s.data.toList = ([], (k : Int), 11) by
                rw [HU.out, hdc]
                refine unqA_bad _ _ _ _ h34 ?_
                rw [← hdc, hc])
              clear hdc h34 hbk hq hc
              go_wp2_with (go_at_call 96; refine HR.out.mono ?_; rintro e w' ⟨rfl, rfl⟩)
              go_ret3
              exact unq_err HF.out rfl hb
            · have hnl : n ≤ s.size - k := by
                have := readL_le (s.data.toList.drop k)
                rw [hc, List.length_drop, data_len] at this
                exact this
              have HF := hd (show unqL s.data.toList = unqA (s.data.toList.drop (k + n)) (k + n) (out ++ [c]) by
                rw [HU.out, hdc]
                rw [hdc] at hc
                rw [unqA_step _ _ _ _ h34 c n hc hn, ← hdc, List.drop_drop])
              have gn : ((n : Int) == 0) = false := by simp; omega
              have hn1 : 1 ≤ n := by omega
              have hlo : (rv out).length ≤ 50000 := by rw [rv_len]; omega
              clear hdc h34 hbk hq hc hn
              go_wp2_with (first | (go_at_call 96; refine HR.out.mono ?_; rintro e w' ⟨rfl, rfl⟩) | (at_builtin; refine wpList_append_1 runeElem (by decide) _ rfl (.tmp 36) (.tmp 38) rfl w.heap.size _ (rv out) (.int .i32 c) _ rfl ho.out _ rfl rfl rfl hlo hb.size ?_; intro v3 w3 ho3 hg3))
              have HO3 := hd (show OwnV 21 w3 w.heap.size v3 (rv (out ++ [c])) by rw [rv_append]; exact ho3)
              have hb3 := hg3.below w.heap.size w (Nat.le_refl _) hb.size hb
              go_roundw
              case rel => exact ⟨k + n, out ++ [c], by omega, by omega, by go_num, by simp; omega, HO3, hb3, HF⟩
              case measure => simp [intOf]; omega
        · have HF := hd (show unqL s.data.toList = ([], (k : Int), 11) by rw [HU.out, drop_all s k (by omega), unqA_nil])
          have hg : ((k : Int) == (s.size : Int)) = true := by simp; omega
          have hlt' : decide (k < s.size) = false := decide_eq_false hlt
          clear hlt
          go_wp2
          go_ret3
          exact unq_err HF.out rfl hb
    · have HF := hd (show unqL s.data.toList = ([], 0, 11) by rw [HC0, unqL_cons, if_neg h34])
      have hq : x0 ≠ 34 := fun e => h34 (byte_eq (by rw [hx0, e]; rfl))
      have g3 : (x0 == 34) = false := by simpa using hq
      have g4 : (x0 != 34) = true := by simpa using hq
      clear HC0 h34 hb0 hq
      go_enter Tryd.func90, Tryd.ntmps90
      go_wp2
      go_ret3
      exact unq_err HF.out rfl (Below.refl _ _)

end Go.Proofs.YtknkclbjocfhiaaDoor
