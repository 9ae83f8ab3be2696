/- A rune read at a string's begin. -/
import Derived.Test.YtknkclbjocfhiaaDoorGUnq
namespace Go.Proofs.YtknkclbjocfhiaaDoor
open Go.RowKit

theorem run6_head (t : List UInt8) (h : run6 t ≠ []) : (run6 t).head? = t.head? := by
  unfold run6 at *
  cases t with
  | nil => rfl
  | cons a t =>
    simp only [List.take_succ_cons, List.takeWhile_cons] at h ⊢
    split at h
    · rename_i ha; rw [if_pos ha]; rfl
    · exact absurd rfl h
set_option maxRecDepth 4000 in
theorem run6_len (t : List UInt8) : (run6 t).length ≤ 6 ∧ (run6 t).length ≤ t.length := by
  unfold run6
  have h1 := (List.takeWhile_prefix (p := isH) (l := t.take 6)).length_le
  simp at h1
  omega
set_option maxRecDepth 4000 in
theorem readL_num (t : List UInt8) (c n : Nat) (h : numL t = (c, n)) : readL (92 :: t) = if n ≠ 0 ∧ t[n]? = some 59 ∧ isR c = true ∧ isP c = false then ((c : Int), n + 2) else (0, 0) := by
  rw [readL_cons, if_pos rfl]
  unfold numL at h
  by_cases hb : 1 < (run6 t).length ∧ t.head? = some 48
  · rw [if_pos hb] at h
    simp only [Prod.mk.injEq] at h
    obtain ⟨rfl, rfl⟩ := h
    have hne : run6 t ≠ [] := by intro e; rw [e] at hb; simp at hb
    have hc : canon (run6 t) = false := by
      unfold canon
      rw [run6_head t hne, hb.2]
      have : (run6 t).length ≠ 1 := by omega
      simp [this]
    have he : escR t = none := by
      unfold escR
      rw [if_neg]
      rintro ⟨_, _, h3, _⟩
      rw [hc] at h3; cases h3
    rw [he]
    simp
  · rw [if_neg hb] at h
    simp only [Prod.mk.injEq] at h
    obtain ⟨rfl, rfl⟩ := h
    by_cases hne : run6 t = []
    · have he : escR t = none := by
        unfold escR
        rw [if_neg]
        rintro ⟨h0, _⟩
        exact h0 hne
      rw [he, hne]
      simp
    · have hl : (run6 t).length ≠ 0 := fun e => hne (List.eq_nil_of_length_eq_zero e)
      have hc : canon (run6 t) = true := by
        unfold canon
        rw [run6_head t hne]
        by_cases h1 : (run6 t).length = 1
        · simp [h1]
        · have : ¬ t.head? = some 48 := fun e => hb ⟨by omega, e⟩
          simp [this]
      unfold escR
      by_cases hall : t[(run6 t).length]? = some 59 ∧ isR (val (run6 t)) = true ∧ isP (val (run6 t)) = false
      · rw [if_pos ⟨hne, hall.1, hc, hall.2.1, hall.2.2⟩, if_pos ⟨hl, hall⟩]
      · rw [if_neg (fun e => hall ⟨e.2.1, e.2.2.2.1, e.2.2.2.2⟩), if_neg (fun e => hall e.2)]
set_option maxRecDepth 4000 in
theorem numL_le (t : List UInt8) (c n : Nat) (h : numL t = (c, n)) : n ≤ 6 ∧ n ≤ t.length ∧ c < 16777216 := by
  have h6 := run6_len t
  unfold numL at h
  split at h
  · simp only [Prod.mk.injEq] at h
    omega
  · simp only [Prod.mk.injEq] at h
    obtain ⟨rfl, rfl⟩ := h
    refine ⟨h6.1, h6.2, ?_⟩
    have := val_lt (run6 t) (fun b hb => by unfold run6 at hb; exact mem_while _ b hb)
    have := Nat.pow_le_pow_right (n := 16) (by omega) h6.1
    omega
set_option maxRecDepth 4000 in
theorem extract_drop (s : ByteArray) (k : Nat) : (s.extract k s.size).data.toList = s.data.toList.drop k := by
  have h := ByteArray.extract_mk s.data.toList k s.size
  have e : (s.data.toList.drop k).take (s.size - k) = s.data.toList.drop k := List.take_of_length_le (by rw [List.length_drop, data_len]; exact Nat.le_refl _)
  rw [e] at h
  exact congrArg (fun t : ByteArray => t.data.toList) h
set_option maxRecDepth 4000 in
theorem extract_size (s : ByteArray) (k : Nat) : (s.extract k s.size).size = s.size - k := by
  rw [← data_len, extract_drop, List.length_drop, data_len]
set_option maxRecDepth 4000 in
theorem data_cons (s : ByteArray) (h : 0 < s.size) : s.data.toList = s[0] :: s.data.toList.drop 1 := by
  have e := at_data s 0 h
  have hl := data_len s
  cases hx : s.data.toList with
  | nil => rw [hx] at hl; simp at hl; omega
  | cons a t => rw [hx] at e; simp at e; rw [e]; rfl

set_option maxRecDepth 4000 in
theorem rd_ret {s : List UInt8} {a b : Int} {w : World} {x : Int × Nat} (hx : readL s = x) (h1 : a = x.1) (h2 : b = x.2) : Pure (.tuple #[.int .i32 (readL s).1, .int .i64 (readL s).2]) w (.returned (.tuple #[.int .i32 a, .int .i64 b])) w := ⟨by rw [hx, h1, h2], rfl⟩

set_option maxRecDepth 4000 in
set_option maxHeartbeats 4000000 in
theorem readRune_any (s : ByteArray) (w : World) (h0 : 0 < s.size) (hs : s.size ≤ 100000) :
    Calls Tryd.prog 96 #[.string s] w (Pure (.tuple #[.int .i32 (readL s.data.toList).1, .int .i64 (readL s.data.toList).2]) w) := by
  have HD := hd (data_cons s h0)
  by_cases h92 : s[0] = 92
  · obtain ⟨c, n, hN⟩ : ∃ c n, numL (s.data.toList.drop 1) = (c, n) := ⟨_, _, rfl⟩
    have hle := numL_le _ c n hN
    have hl1 : (s.data.toList.drop 1).length = s.size - 1 := by rw [List.length_drop, data_len]
    rw [hl1] at hle
    obtain ⟨hn6, hnl, hc⟩ := hle
    have HL := readL_num (s.data.toList.drop 1) c n hN
    have HC := hd (readNumber_any (s.extract 1 s.size) w (by rw [extract_size]; omega))
    rw [extract_drop, hN] at HC
    rw [← h92, ← HD.out] at HL
    have hx : (s[0].toNat : Int) = 92 := by rw [h92]; rfl
    have h1s : (1 : Int) ≤ s.size := by omega
    have HLh := hd HL
    clear HL h92 hl1 hN
    by_cases hn0 : n = 0
    · subst hn0
      have HF := hd (show readL s.data.toList = (0, 0) by rw [HLh.out, if_neg (fun e => e.1 rfl)])
      go_enter Tryd.func96, Tryd.ntmps96
      go_wp2_with fail
      refine HC.out.mono ?_
      rintro e w' ⟨rfl, rfl⟩
      go_wp2
      go_ret2
      exact rd_ret HF.out rfl rfl
    · have g0 : ((n : Int) == 0) = false := by simp; omega
      by_cases hns : 1 + n = s.size
      · have HF := hd (show readL s.data.toList = (0, 0) by
          rw [HLh.out, if_neg]
          rintro ⟨_, e, _⟩
          have := (List.getElem?_eq_some_iff.1 e).1
          rw [List.length_drop, data_len] at this
          omega)
        have g1 : (1 + (n : Int) == (s.size : Int)) = true := by simp; omega
        clear hns
        go_enter Tryd.func96, Tryd.ntmps96
        go_wp2_with fail
        refine HC.out.mono ?_
        rintro e w' ⟨rfl, rfl⟩
        go_wp2
        go_ret2
        exact rd_ret HF.out rfl rfl
      · have g1 : (1 + (n : Int) == (s.size : Int)) = false := by simp; omega
        have g2 : 1 + n < s.size := by omega
        have hat : (s.data.toList.drop 1)[n]? = some s[1 + n] := by rw [List.getElem?_drop]; exact at_data s (1 + n) g2
        by_cases h59 : s[1 + n] = 59
        · have e59 : (s[1 + n].toNat : Int) = 59 := by rw [h59]; rfl
          have HA := hd (hat.trans (congrArg some h59))
          have HR := hd (isRune_any (c : Int) w)
          have HP := hd (isPlain_any (c : Int) w)
          clear hns hat h59
          cases hr : isR c
          · have HF := hd (show readL s.data.toList = (0, 0) by rw [HLh.out, if_neg (fun e => by rw [hr] at e; cases e.2.2.1)])
            rw [hr] at HR
            clear hr
            go_enter Tryd.func96, Tryd.ntmps96
            go_wp2_with fail
            refine HC.out.mono ?_
            rintro e w' ⟨rfl, rfl⟩
            go_wp2_with fail
            refine HR.out.mono ?_
            rintro e w' ⟨rfl, rfl⟩
            go_wp2
            go_ret2
            exact rd_ret HF.out rfl rfl
          · cases hp : isP c
            · have HF := hd (show readL s.data.toList = ((c : Int), n + 2) by rw [HLh.out, if_pos ⟨hn0, HA.out, hr, hp⟩])
              rw [hr] at HR
              rw [hp] at HP
              clear hr hp
              go_enter Tryd.func96, Tryd.ntmps96
              go_wp2_with fail
              refine HC.out.mono ?_
              rintro e w' ⟨rfl, rfl⟩
              go_wp2_with fail
              refine HR.out.mono ?_
              rintro e w' ⟨rfl, rfl⟩
              go_wp2_with fail
              refine HP.out.mono ?_
              rintro e w' ⟨rfl, rfl⟩
              go_wp2
              go_ret2
              exact rd_ret HF.out rfl (by simp; omega)
            · have HF := hd (show readL s.data.toList = (0, 0) by rw [HLh.out, if_neg (fun e => by rw [hp] at e; cases e.2.2.2)])
              rw [hr] at HR
              rw [hp] at HP
              clear hr hp
              go_enter Tryd.func96, Tryd.ntmps96
              go_wp2_with fail
              refine HC.out.mono ?_
              rintro e w' ⟨rfl, rfl⟩
              go_wp2_with fail
              refine HR.out.mono ?_
              rintro e w' ⟨rfl, rfl⟩
              go_wp2_with fail
              refine HP.out.mono ?_
              rintro e w' ⟨rfl, rfl⟩
              go_wp2
              go_ret2
              exact rd_ret HF.out rfl rfl
        · have hq : (s[1 + n].toNat : Int) ≠ 59 := fun e => h59 (by
            rw [show s[1 + n] = UInt8.ofNat s[1 + n].toNat by simp, show s[1 + n].toNat = 59 by omega]; rfl)
          have g3 : ((s[1 + n].toNat : Int) == 59) = false := by simpa using hq
          have g4 : ((s[1 + n].toNat : Int) != 59) = true := by simpa using hq
          have HF := hd (show readL s.data.toList = (0, 0) by
            rw [HLh.out, if_neg]
            rintro ⟨_, e, _⟩
            rw [hat] at e
            exact h59 (Option.some.inj e))
          clear hns hat h59 hq
          go_enter Tryd.func96, Tryd.ntmps96
          go_wp2_with fail
          refine HC.out.mono ?_
          rintro e w' ⟨rfl, rfl⟩
          go_wp2
          go_ret2
          exact rd_ret HF.out rfl rfl
  · have hq : (s[0].toNat : Int) ≠ 92 := fun e => h92 (by
      rw [show s[0] = UInt8.ofNat s[0].toNat by simp, show s[0].toNat = 92 by omega]; rfl)
    have HL : readL s.data.toList = if isP s[0].toNat then ((s[0].toNat : Int), 1) else (0, 0) := by
      rw [HD.out, readL_cons, if_neg h92]
    have hb := s[0].toNat_lt
    obtain ⟨x, hx⟩ : ∃ x : Int, (s[0].toNat : Int) = x := ⟨_, rfl⟩
    rw [hx] at hq HL
    have b1 : 0 ≤ x := by omega
    have b2 : x < 256 := by omega
    have g3 : (x == 92) = false := by simpa using hq
    have g4 : (x != 92) = true := by simpa using hq
    have HP := hd (isPlain_any x w)
    have HLh := hd HL
    clear HL hq h92 hb
    cases hp : isP x
    · have HF := hd (show readL s.data.toList = (0, 0) by rw [HLh.out, hp]; rfl)
      rw [hp] at HP
      clear hp
      go_enter Tryd.func96, Tryd.ntmps96
      go_wp2_with fail
      refine HP.out.mono ?_
      rintro e w' ⟨rfl, rfl⟩
      go_wp2
      go_ret2
      exact rd_ret HF.out rfl rfl
    · have HF := hd (show readL s.data.toList = (x, 1) by rw [HLh.out, hp]; rfl)
      rw [hp] at HP
      clear hp
      go_enter Tryd.func96, Tryd.ntmps96
      go_wp2_with fail
      refine HP.out.mono ?_
      rintro e w' ⟨rfl, rfl⟩
      go_wp2
      go_ret2
      exact rd_ret HF.out rfl rfl

end Go.Proofs.YtknkclbjocfhiaaDoor
