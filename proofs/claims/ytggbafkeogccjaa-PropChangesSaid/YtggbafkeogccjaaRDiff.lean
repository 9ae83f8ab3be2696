/- The document's Diff answers what is wrong first, or what each of two lists has that the other has not. -/
import Derived.Test.YtggbafkeogccjaaPut
namespace Go.Proofs.Ytggbafkeogccjaa
open Go.RowKit

theorem rcheck_is (A : Option Addr) (l : List Pr) (c : Nat) (w : World) (hF : Fit l) (hp : PL w w.heap.size A l) (E : Int) (hE : chk l = E) :
    Calls Try.prog 14 #[.slice A l.length c] w fun e w' => e = .returned (.int .i64 E) ∧ Below w.heap.size w w' := hE ▸ rcheck_any A l c w hF hp
theorem rhas_is (A : Option Addr) (l : List Pr) (c : Nat) (k v : ByteArray) (r : Bool) (hr : hasB l (k, v) = r) (w : World) (hl : l.length ≤ 1000) (hp : PL w w.heap.size A l) :
    Calls Try.prog 30 #[.slice A l.length c, .agg #[.string k, .string v]] w fun e w' => e = .returned (.bool r) ∧ Below w.heap.size w w' := hr ▸ rhas_any A l c k v w hl hp
theorem minus_keep {l m : List Pr} {n : Nat} (hn : n < l.length) (h : hasB m ((prAt l n).1, (prAt l n).2) = false) : minus (l.take (n + 1)) m = minus (l.take n) m ++ [((prAt l n).1, (prAt l n).2)] := by
  unfold minus
  rw [take_more l n hn, List.filter_append, List.filter_cons, h]; rfl
theorem minus_skip {l m : List Pr} {n : Nat} (hn : n < l.length) (h : hasB m ((prAt l n).1, (prAt l n).2) = true) : minus (l.take (n + 1)) m = minus (l.take n) m := by
  unfold minus
  rw [take_more l n hn, List.filter_append, List.filter_cons, h]; simp

set_option maxHeartbeats 2000000 in
theorem rdiff_bad (A B : Option Addr) (l m : List Pr) (c d : Nat) (w : World) (hF : Fit l) (hp : PL w w.heap.size A l) (E : Int) (hE : chk l = E) (h0 : (E != 0) = true) :
    Calls Try.prog 20 #[.slice A l.length c, .slice B m.length d] w (DiffBad w E) := by
  have hC := hd (rcheck_is A l c w hF hp E hE)
  clear hE hp hF
  go_enter Try.func20, Try.ntmps20
  go_wp2_with (go_at_call 14; refine hC.out.mono ?_; rintro e w1 ⟨rfl, hb1⟩)
  go_ret3
  exact ⟨rfl, hb1⟩
set_option maxHeartbeats 2000000 in
theorem rdiff_other (A B : Option Addr) (l m : List Pr) (c d : Nat) (w : World) (hF : Fit l) (hG : Fit m) (hp : PL w w.heap.size A l) (hq : PL w w.heap.size B m) (hl0 : chk l = 0) (E : Int) (hE : chk m = E) (h0 : (E != 0) = true) :
    Calls Try.prog 20 #[.slice A l.length c, .slice B m.length d] w (DiffBad w E) := by
  have HP := hd hp
  have HQ := hd hq
  have HF := hd hF
  have HG := hd hG
  have HL := hd hl0
  have HE := hd hE
  clear hE hp hq hF hG hl0
  go_enter Try.func20, Try.ntmps20
  go_wp2_with fail
  refine (rcheck_is A l c w HF.out HP.out 0 HL.out).mono ?_
  rintro e w1 ⟨rfl, hb1⟩
  go_wp2_with fail
  refine (rcheck_is B m d w1 HG.out (HQ.out.later hb1) E HE.out).mono ?_
  rintro e w2 ⟨rfl, hb2⟩
  go_wp2_with fail
  go_ret3
  exact ⟨rfl, hb1.trans (hb2.mono hb1.size)⟩

set_option maxRecDepth 100000 in
set_option maxHeartbeats 4000000 in
theorem rdiff_ok (A B : Option Addr) (l m : List Pr) (c d : Nat) (w : World) (hl0 : chk l = 0) (hm0 : chk m = 0) (hp : PL w w.heap.size A l) (hq : PL w w.heap.size B m) :
    Calls Try.prog 20 #[.slice A l.length c, .slice B m.length d] w (DiffOk w l m) := by
  have HP := hd hp
  have HQ := hd hq
  have HF := hd (fit_of_chk hl0)
  have HG := hd (fit_of_chk hm0)
  have l60 := HF.out.1
  have m60 := HG.out.1
  have HL := hd hl0
  have HM := hd hm0
  clear hp hq hl0 hm0
  go_enter Try.func20, Try.ntmps20
  go_wp2_with fail
  refine (rcheck_is A l c w HF.out HP.out 0 HL.out).mono ?_
  rintro e w1 ⟨rfl, hb1⟩
  go_wp2_with fail
  refine (rcheck_is B m d w1 HG.out (HQ.out.later hb1) 0 HM.out).mono ?_
  rintro e w2 ⟨rfl, hb2⟩
  have hw2 := hb1.trans (hb2.mono hb1.size)
  clear hb1 hb2
  go_wp2_with fail
  go_loopw [9, 27] (fun v i wr => ∃ n : Nat, n ≤ l.length ∧ i = .int .i64 n ∧ OwnP wr w.heap.size v (minus (l.take n) m) ∧ Below w.heap.size w wr) (fun _ i _ => l.length - (intOf i).toNat)
  case atStart => exact ⟨0, Nat.zero_le _, rfl, OwnP.nil _ _, hw2⟩
  case round =>
    clear hw2
    obtain ⟨n, hn, rfl, hO, hb⟩ := hrel
    by_cases hlt : n < l.length
    · obtain ⟨g, o, rfl, hlg, c1, c2⟩ := (HP.out.below hb).at_ hlt
      have hml := minus_len (l.take n) m
      have hol : (minus (l.take n) m).length ≤ 1000 := by rw [List.length_take] at hml; omega
      have HOL := hd hol
      have hbx := hb.alloc hb.size (.cells #[.string (prAt l n).1, .string (prAt l n).2] 36)
      have hq1 := (HQ.out.later hbx)
      have hO1 := hO.alloc (.cells #[.string (prAt l n).1, .string (prAt l n).2] 36)
      clear hml hol
      cases hh : hasB m ((prAt l n).1, (prAt l n).2)
      · have HT := hd (minus_keep hlt hh)
        have hC := hd (rhas_is B m d (prAt l n).1 (prAt l n).2 _ hh _ (by omega) hq1)
        clear hh hq1
        go_wp2_with (first
          | (go_at_call 30; refine hC.out.mono ?_; rintro e w3 ⟨rfl, hb3⟩; obtain ⟨k1, k2⟩ := two_kept hb3; have hO2 := hO1.below hb3; have hb4 := hbx.trans (hb3.mono (by have := hb.size; simp; omega)); have hs4 := hb4.size)
          | (at_builtin; refine wpList_append_P _ rfl (.tmp 35) (.tmp 37) rfl w.heap.size _ _ rfl hO2 (prAt l n).1 (prAt l n).2 w3.heap.size rfl rfl HOL.out hs4 ?_; intro v5 w5 hO5 hG5))
        go_roundw
        case rel => exact ⟨n + 1, by omega, by go_num, by rw [HT.out]; exact hO5, hG5.below _ _ (Nat.le_refl _) hs4 hb4⟩
        case measure => simp [intOf]; omega
      · have HT := hd (minus_skip hlt hh)
        have hC := hd (rhas_is B m d (prAt l n).1 (prAt l n).2 _ hh _ (by omega) hq1)
        clear hh hq1
        go_wp2_with (first
          | (go_at_call 30; refine hC.out.mono ?_; rintro e w3 ⟨rfl, hb3⟩))
        have hO2 := hO1.below hb3
        have hb4 := hbx.trans (hb3.mono (by have := hb.size; simp; omega))
        go_roundw
        case rel => exact ⟨n + 1, by omega, by go_num, by rw [HT.out]; exact hO2, hb4⟩
        case measure => simp [intOf]; omega
    · have hO9 : OwnP wr w.heap.size u9 (minus l m) := by rw [List.take_of_length_le (by omega)] at hO; exact hO
      clear hO
      obtain ⟨wo, hwo⟩ : ∃ wo : World, wo = wr := ⟨_, rfl⟩
      subst hwo
      obtain ⟨v9, hv9⟩ : ∃ v9, v9 = u9 := ⟨_, rfl⟩
      subst hv9
      go_wp2
      go_loopw [10, 42] (fun v i wr => ∃ n : Nat, n ≤ m.length ∧ i = .int .i64 n ∧ OwnP wr wo.heap.size v (minus (m.take n) l) ∧ Below wo.heap.size wo wr) (fun _ i _ => m.length - (intOf i).toNat)
      case atStart => exact ⟨0, Nat.zero_le _, rfl, OwnP.nil _ _, Below.refl _ _⟩
      case round =>
        obtain ⟨n, hn, rfl, hO, hb2⟩ := hrel
        have hbw := hb.trans (hb2.mono hb.size)
        by_cases hlt : n < m.length
        · obtain ⟨g, o, rfl, hlg, c1, c2⟩ := (HQ.out.below hbw).at_ hlt
          have hml := minus_len (m.take n) l
          have hol : (minus (m.take n) l).length ≤ 1000 := by rw [List.length_take] at hml; omega
          have HOL := hd hol
          have hbx := hb2.alloc hb2.size (.cells #[.string (prAt m n).1, .string (prAt m n).2] 36)
          have hbwx := hbw.alloc hbw.size (.cells #[.string (prAt m n).1, .string (prAt m n).2] 36)
          have hp1 := (HP.out.later hbwx)
          have hO1 := hO.alloc (.cells #[.string (prAt m n).1, .string (prAt m n).2] 36)
          clear hml hol
          cases hh : hasB l ((prAt m n).1, (prAt m n).2)
          · have HT := hd (minus_keep hlt hh)
            have hC := hd (rhas_is A l c (prAt m n).1 (prAt m n).2 _ hh _ (by omega) hp1)
            clear hh hp1
            go_wp2_with (first
              | (go_at_call 30; refine hC.out.mono ?_; rintro e w3 ⟨rfl, hb3⟩; obtain ⟨k1, k2⟩ := two_kept hb3; have hO2 := hO1.below hb3; have hb4 := hbx.trans (hb3.mono (by have := hb2.size; simp; omega)); have hs4 := hb4.size)
              | (at_builtin; refine wpList_append_P _ rfl (.tmp 50) (.tmp 52) rfl wo.heap.size _ _ rfl hO2 (prAt m n).1 (prAt m n).2 w3.heap.size rfl rfl HOL.out hs4 ?_; intro v5 w5 hO5 hG5))
            go_roundw
            case rel => exact ⟨n + 1, by omega, by go_num, by rw [HT.out]; exact hO5, hG5.below _ _ (Nat.le_refl _) hs4 hb4⟩
            case measure => simp [intOf]; omega
          · have HT := hd (minus_skip hlt hh)
            have hC := hd (rhas_is A l c (prAt m n).1 (prAt m n).2 _ hh _ (by omega) hp1)
            clear hh hp1
            go_wp2_with (first
              | (go_at_call 30; refine hC.out.mono ?_; rintro e w3 ⟨rfl, hb3⟩))
            have hO2 := hO1.below hb3
            have hb4 := hbx.trans (hb3.mono (by have := hb2.size; simp; omega))
            go_roundw
            case rel => exact ⟨n + 1, by omega, by go_num, by rw [HT.out]; exact hO2, hb4⟩
            case measure => simp [intOf]; omega
        · have hO10 : OwnP wr wo.heap.size u10 (minus m l) := by rw [List.take_of_length_le (by omega)] at hO; exact hO
          clear hO
          go_wp2
          go_ret3
          exact ⟨_, _, rfl, hO9.below hb2, hO10.base hb.size, hbw⟩

def DX (l m : List Pr) : List Pr := if chk2 l m = 0 then minus l m else []
def DY (l m : List Pr) : List Pr := if chk2 l m = 0 then minus m l else []
theorem diff_is (A B : Option Addr) (l m : List Pr) (c d : Nat) (w : World) (hF : Fit l) (hG : Fit m) (hp : PL w w.heap.size A l) (hq : PL w w.heap.size B m) (E : Int) (hE : chk2 l m = E) (X Y : List Pr) (hX : DX l m = X) (hY : DY l m = Y) :
    Calls Try.prog 19 #[.slice A l.length c, .slice B m.length d] w (DiffIs w E X Y) := by
  subst hE hX hY
  unfold DX DY
  by_cases h : chk2 l m = 0
  · rw [if_pos h, if_pos h, h]
    exact diff_yes A B l m c d w h hp hq
  · rw [if_neg h, if_neg h]
    exact diff_no A B l m c d w hF hG hp hq _ rfl (by simpa using h)
theorem rdiff_is (A B : Option Addr) (l m : List Pr) (c d : Nat) (w : World) (hF : Fit l) (hG : Fit m) (hp : PL w w.heap.size A l) (hq : PL w w.heap.size B m) (E : Int) (hE : chk2 l m = E) (X Y : List Pr) (hX : DX l m = X) (hY : DY l m = Y) :
    Calls Try.prog 20 #[.slice A l.length c, .slice B m.length d] w (DiffIs w E X Y) := by
  subst hE hX hY
  unfold DX DY
  by_cases h : chk2 l m = 0
  · rw [if_pos h, if_pos h, h]
    exact (rdiff_ok A B l m c d w (both_zero h).1 (both_zero h).2 hp hq).mono fun _ _ h => h
  · rw [if_neg h, if_neg h]
    have bad : ∀ E, E ≠ 0 → chk2 l m = E → Calls Try.prog 20 #[.slice A l.length c, .slice B m.length d] w (DiffBad w E) → Calls Try.prog 20 #[.slice A l.length c, .slice B m.length d] w (DiffIs w (chk2 l m) [] []) := fun E _ hE hc =>
      hc.mono fun _ _ h => ⟨_, _, by rw [hE]; exact h.1, OwnP.nil _ _, OwnP.nil _ _, h.2⟩
    by_cases h1 : chk l = 0
    · have h2 : chk2 l m = chk m := by unfold chk2; rw [if_pos h1]
      rw [h2] at h
      exact bad _ h h2 (rdiff_other A B l m c d w hF hG hp hq h1 _ rfl (by simpa using h))
    · have h2 : chk2 l m = chk l := by unfold chk2; rw [if_neg h1]
      exact bad _ h1 h2 (rdiff_bad A B l m c d w hF hp _ rfl (by simpa using h1))

end Go.Proofs.Ytggbafkeogccjaa
