/- The walk of TrailLevels: whatever the input, it answers true, and old memory stays as it was. -/
import Derived.Test.YtpjibfopfdbnjaaMake4
namespace Go.Proofs.Ytpjibfopfdbnjaa
open Go.RowKit

theorem same_is (A B : Option Addr) (l m : List Int) (a b c d : Nat) (r : Bool) (hr : sameL l m = r) (w : World) (ha : l.length = a) (hb : m.length = b) (hl : l.length ≤ 9223372036854775807) (hm : m.length ≤ 9223372036854775807) (hp : IL w w.heap.size A l) (hq : IL w w.heap.size B m) :
    Calls Try.prog 14 #[.slice A a c, .slice B b d] w (Quiet (.bool r) w) := by
  subst ha hb hr
  exact same_any A B l m c d w hl hm hp hq

/-- The longest level so far. -/
def longest (K n : Nat) : Nat := min (n - 1) K
theorem longest_up (K n : Nat) (h : n ≤ K) : longest K (n + 1) = n := by unfold longest; omega
theorem longest_stay (K n : Nat) (h : ¬ n ≤ K) : longest K (n + 1) = longest K n := by unfold longest; omega

theorem commonL_length (l m : List Int) : (commonL l m).length = alikeN l m := by
  have := alikeN_le l m
  unfold commonL; simp; omega
theorem commonL_comm (l m : List Int) : commonL l m = commonL m l := by
  unfold commonL; rw [alikeN_take l m, alikeN_comm l m]
theorem lAt_levels (l : List Int) (n : Nat) (h : n ≤ l.length) : lAt (levelsL l) n = l.take n := by
  rw [lAt_eq _ n (by rw [levelsL_length]; omega)]; simp [levelsL]
theorem NewI.open_ {w w' : World} {l : List Int} {e : Ending} (h : NewI w l e w') (n : Nat) (hn : l.length = n) : ∃ A c, e = .returned (.slice A n c) ∧ n ≤ c ∧ IL w' w'.heap.size A l ∧ Below w.heap.size w w' := by
  obtain ⟨v, he, ho, hb⟩ := h
  obtain ⟨A, c, rfl, h1, h2⟩ := ho.open_at n hn
  exact ⟨A, c, he, h1, h2, hb⟩
theorem NewR.open_ {w w' : World} {L : List (List Int)} {e : Ending} (h : NewR w L e w') (n : Nat) (hn : L.length = n) : ∃ A c, e = .returned (.slice A n c) ∧ n ≤ c ∧ RL w' w'.heap.size A L ∧ Below w.heap.size w w' := by
  subst hn
  obtain ⟨v, he, ho, hb⟩ := h
  obtain ⟨A, c, rfl, h1, h2⟩ := ho.open_
  exact ⟨A, c, he, h1, h2, hb⟩

set_option maxHeartbeats 16000000 in
theorem lev_any (A B : Option Addr) (l m : List Int) (c d : Nat) (w : World) (hl : l.length ≤ 9223372036854775807) (hm : m.length ≤ 9223372036854775807) (hc : l.length ≤ c) (hd1 : m.length ≤ d) (hp : IL w w.heap.size A l) (hq : IL w w.heap.size B m) :
    Calls Try.prog 7 #[.slice A l.length c, .slice B m.length d] w (AllTrue w) := by
  have HP := hd hp
  have HQ := hd hq
  clear hp hq
  cases hs : shortB 2 (two l m)
  · have HS := hd hs
    clear hs
    go_enter Try.func7, Try.ntmps7
    go_wp2_with fail
    refine (live_any _).mono ?_
    rintro e w1 ⟨rfl, hb1⟩
    go_wp2_with fail
    refine (short2 A B l m c d w1 hl hm _ HS.out).mono ?_
    rintro e w2 ⟨rfl, hb2⟩
    go_wp2_with fail
    go_ret
    exact ⟨rfl, hb1.trans (hb2.mono hb1.size)⟩
  · have HS := hd hs
    have s1 : l.length ≤ 100 := (shortB_iff _ _).1 hs 0 (by omega)
    have s2 : m.length ≤ 100 := (shortB_iff _ _).1 hs 1 (by omega)
    clear hs
    go_enter Try.func7, Try.ntmps7
    go_wp2_with fail
    refine (live_any _).mono ?_
    rintro e w1 ⟨rfl, hb1⟩
    go_wp2_with fail
    refine (short2 A B l m c d w1 hl hm _ HS.out).mono ?_
    rintro e w2 ⟨rfl, hb2⟩
    have hb2 := hb1.trans (hb2.mono hb1.size)
    clear hb1 HS
    go_wp2_with fail
    refine (levels_any A l c w2 (by omega) hc (HP.out.later hb2)).mono ?_
    intro e w3 h3
    obtain ⟨AL, cL, rfl, hcL, hRL, hb3⟩ := h3.open_ (l.length + 1) (levelsL_length l)
    have hb3 := hb2.trans (hb3.mono hb2.size)
    have HRL := hd hRL
    clear hRL hb2 h3
    go_wp2_with fail
    refine (common_any A B l m c d w3 (by omega) (by omega) hc (HP.out.later hb3) (HQ.out.later hb3)).mono ?_
    intro e w4 h4
    obtain ⟨K, hK⟩ : ∃ K, K = alikeN l m := ⟨_, rfl⟩
    obtain ⟨AC, cC, rfl, hcC, hCL, hb4⟩ := h4.open_ K (by rw [hK]; exact commonL_length l m)
    have HR4 := hd (HRL.out.later hb4)
    have hb4 := hb3.trans (hb4.mono hb3.size)
    have HC4 := hd hCL
    have HP4 := hd (HP.out.later hb4)
    have HQ4 := hd (HQ.out.later hb4)
    have hKl := alikeN_le l m
    rw [← hK] at hKl
    have HK := hd hK
    clear hK hCL HRL h4 hb3
    go_wp2_with fail
    go_loopw [7, 30] (fun g i wr => ∃ n : Nat, n ≤ l.length + 1 ∧ i = .int .i64 n ∧ g = .int .i64 (longest K n) ∧ (∃ k, wr = w4.drewN k)) (fun _ i _ => l.length + 1 - (intOf i).toNat)
    case atStart => exact ⟨0, Nat.zero_le _, rfl, rfl, ⟨0, rfl⟩⟩
    case round =>
      obtain ⟨n, hn1, rfl, rfl, ⟨kd, rfl⟩⟩ := hrel
      by_cases h1 : n < l.length + 1
      · have h1' : (n : Int) < (l.length : Int) + 1 := by omega
        obtain ⟨bL, oL, An, cn, rfl, hlL, cc, hcn, pn⟩ := HR4.out.at_ (show n < (levelsL l).length by rw [levelsL_length]; exact h1)
        rw [lAt_levels l n (by omega)] at cc hcn pn
        have e1 : (l.take n).length = n := by simp; omega
        rw [e1] at cc hcn
        have hlv := level_is l m n (by omega)
        have hta : ¬ n = l.length → aboveL (l.take n) l = true := fun h => take_above l n (by omega)
        have hts : n = l.length → sameL (l.take n) l = true := fun h => by unfold sameL; rw [h, List.take_length]; simp
        have htn : ¬ n = l.length → sameL (l.take n) l = false := fun h => same_no _ _ (.inl (by rw [e1]; exact h))
        obtain ⟨P, hP⟩ : ∃ P, P = l.take n := ⟨_, rfl⟩
        rw [← hP] at pn e1 hlv hta hts htn
        rw [← HK.out] at hlv
        have HLV := hd hlv
        have HPn := hd pn
        have HE1 := hd e1
        clear pn e1 hlv hP
        by_cases hn : n = l.length
        · have HS1 := hd (hts hn)
          clear hta hts htn hn
          cases hs1 : sameL P m
          · cases hs2 : aboveL P m
            · have hno : ¬ n ≤ K := by have := HLV.out; rw [hs1, hs2] at this; simpa using this
              have HG := hd (longest_stay K n hno)
              have H1 := hd hs1
              have H2 := hd hs2
              clear hs1 hs2
              go_wp2_with fail
              refine (same_is An A P l n l.length cn c true HS1.out _ HE1.out rfl (by have := HE1.out; omega) (by have := HE1.out; omega) ?_ ?_).mono ?_
              · exact HPn.out
              · exact HP4.out
              rintro e w' ⟨rfl, kq, rfl⟩
              go_wp2_with fail
              refine (same_is An B P m n m.length cn d false H1.out _ HE1.out rfl (by have := HE1.out; omega) (by have := HE1.out; omega) ?_ ?_).mono ?_
              · exact HPn.out
              · exact HQ4.out
              rintro e w' ⟨rfl, kq, rfl⟩
              go_wp2_with fail
              refine (above_is An B P m n m.length cn d false H2.out _ HE1.out rfl (by have := HE1.out; omega) (by have := HE1.out; omega) ?_ ?_).mono ?_
              · exact HPn.out
              · exact HQ4.out
              rintro e w' ⟨rfl, kq, rfl⟩
              go_wp2_with fail
              go_roundw
              case rel => exact ⟨n + 1, by omega, by go_num, by rw [HG.out], (by first | exact ⟨_, rfl⟩ | (simp only [World.drewN_drewN]; exact ⟨_, rfl⟩))⟩
              case measure => simp [intOf]; omega
            · have hno : n ≤ K := by have := HLV.out; rw [hs1, hs2] at this; simpa using this
              have HG := hd (longest_up K n hno)
              have H1 := hd hs1
              have H2 := hd hs2
              clear hs1 hs2
              go_wp2_with fail
              refine (same_is An A P l n l.length cn c true HS1.out _ HE1.out rfl (by have := HE1.out; omega) (by have := HE1.out; omega) ?_ ?_).mono ?_
              · exact HPn.out
              · exact HP4.out
              rintro e w' ⟨rfl, kq, rfl⟩
              go_wp2_with fail
              refine (same_is An B P m n m.length cn d false H1.out _ HE1.out rfl (by have := HE1.out; omega) (by have := HE1.out; omega) ?_ ?_).mono ?_
              · exact HPn.out
              · exact HQ4.out
              rintro e w' ⟨rfl, kq, rfl⟩
              go_wp2_with fail
              refine (above_is An B P m n m.length cn d true H2.out _ HE1.out rfl (by have := HE1.out; omega) (by have := HE1.out; omega) ?_ ?_).mono ?_
              · exact HPn.out
              · exact HQ4.out
              rintro e w' ⟨rfl, kq, rfl⟩
              go_wp2_with fail
              go_roundw
              case rel => exact ⟨n + 1, by omega, by go_num, by rw [HG.out], (by first | exact ⟨_, rfl⟩ | (simp only [World.drewN_drewN]; exact ⟨_, rfl⟩))⟩
              case measure => simp [intOf]; omega
          · have hno : n ≤ K := by have := HLV.out; rw [hs1] at this; simpa using this
            have HG := hd (longest_up K n hno)
            have H1 := hd hs1
            clear hs1
            go_wp2_with fail
            refine (same_is An A P l n l.length cn c true HS1.out _ HE1.out rfl (by have := HE1.out; omega) (by have := HE1.out; omega) ?_ ?_).mono ?_
            · exact HPn.out
            · exact HP4.out
            rintro e w' ⟨rfl, kq, rfl⟩
            go_wp2_with fail
            refine (same_is An B P m n m.length cn d true H1.out _ HE1.out rfl (by have := HE1.out; omega) (by have := HE1.out; omega) ?_ ?_).mono ?_
            · exact HPn.out
            · exact HQ4.out
            rintro e w' ⟨rfl, kq, rfl⟩
            go_wp2_with fail
            go_roundw
            case rel => exact ⟨n + 1, by omega, by go_num, by rw [HG.out], (by first | exact ⟨_, rfl⟩ | (simp only [World.drewN_drewN]; exact ⟨_, rfl⟩))⟩
            case measure => simp [intOf]; omega
        · have HS1 := hd (htn hn)
          have HS2 := hd (hta hn)
          clear hta hts htn hn
          cases hs1 : sameL P m
          · cases hs2 : aboveL P m
            · have hno : ¬ n ≤ K := by have := HLV.out; rw [hs1, hs2] at this; simpa using this
              have HG := hd (longest_stay K n hno)
              have H1 := hd hs1
              have H2 := hd hs2
              clear hs1 hs2
              go_wp2_with fail
              refine (same_is An A P l n l.length cn c false HS1.out _ HE1.out rfl (by have := HE1.out; omega) (by have := HE1.out; omega) ?_ ?_).mono ?_
              · exact HPn.out
              · exact HP4.out
              rintro e w' ⟨rfl, kq, rfl⟩
              go_wp2_with fail
              refine (above_is An A P l n l.length cn c true HS2.out _ HE1.out rfl (by have := HE1.out; omega) (by have := HE1.out; omega) ?_ ?_).mono ?_
              · exact HPn.out
              · exact HP4.out
              rintro e w' ⟨rfl, kq, rfl⟩
              go_wp2_with fail
              refine (same_is An B P m n m.length cn d false H1.out _ HE1.out rfl (by have := HE1.out; omega) (by have := HE1.out; omega) ?_ ?_).mono ?_
              · exact HPn.out
              · exact HQ4.out
              rintro e w' ⟨rfl, kq, rfl⟩
              go_wp2_with fail
              refine (above_is An B P m n m.length cn d false H2.out _ HE1.out rfl (by have := HE1.out; omega) (by have := HE1.out; omega) ?_ ?_).mono ?_
              · exact HPn.out
              · exact HQ4.out
              rintro e w' ⟨rfl, kq, rfl⟩
              go_wp2_with fail
              go_roundw
              case rel => exact ⟨n + 1, by omega, by go_num, by rw [HG.out], (by first | exact ⟨_, rfl⟩ | (simp only [World.drewN_drewN]; exact ⟨_, rfl⟩))⟩
              case measure => simp [intOf]; omega
            · have hno : n ≤ K := by have := HLV.out; rw [hs1, hs2] at this; simpa using this
              have HG := hd (longest_up K n hno)
              have H1 := hd hs1
              have H2 := hd hs2
              clear hs1 hs2
              go_wp2_with fail
              refine (same_is An A P l n l.length cn c false HS1.out _ HE1.out rfl (by have := HE1.out; omega) (by have := HE1.out; omega) ?_ ?_).mono ?_
              · exact HPn.out
              · exact HP4.out
              rintro e w' ⟨rfl, kq, rfl⟩
              go_wp2_with fail
              refine (above_is An A P l n l.length cn c true HS2.out _ HE1.out rfl (by have := HE1.out; omega) (by have := HE1.out; omega) ?_ ?_).mono ?_
              · exact HPn.out
              · exact HP4.out
              rintro e w' ⟨rfl, kq, rfl⟩
              go_wp2_with fail
              refine (same_is An B P m n m.length cn d false H1.out _ HE1.out rfl (by have := HE1.out; omega) (by have := HE1.out; omega) ?_ ?_).mono ?_
              · exact HPn.out
              · exact HQ4.out
              rintro e w' ⟨rfl, kq, rfl⟩
              go_wp2_with fail
              refine (above_is An B P m n m.length cn d true H2.out _ HE1.out rfl (by have := HE1.out; omega) (by have := HE1.out; omega) ?_ ?_).mono ?_
              · exact HPn.out
              · exact HQ4.out
              rintro e w' ⟨rfl, kq, rfl⟩
              go_wp2_with fail
              go_roundw
              case rel => exact ⟨n + 1, by omega, by go_num, by rw [HG.out], (by first | exact ⟨_, rfl⟩ | (simp only [World.drewN_drewN]; exact ⟨_, rfl⟩))⟩
              case measure => simp [intOf]; omega
          · have hno : n ≤ K := by have := HLV.out; rw [hs1] at this; simpa using this
            have HG := hd (longest_up K n hno)
            have H1 := hd hs1
            clear hs1
            go_wp2_with fail
            refine (same_is An A P l n l.length cn c false HS1.out _ HE1.out rfl (by have := HE1.out; omega) (by have := HE1.out; omega) ?_ ?_).mono ?_
            · exact HPn.out
            · exact HP4.out
            rintro e w' ⟨rfl, kq, rfl⟩
            go_wp2_with fail
            refine (above_is An A P l n l.length cn c true HS2.out _ HE1.out rfl (by have := HE1.out; omega) (by have := HE1.out; omega) ?_ ?_).mono ?_
            · exact HPn.out
            · exact HP4.out
            rintro e w' ⟨rfl, kq, rfl⟩
            go_wp2_with fail
            refine (same_is An B P m n m.length cn d true H1.out _ HE1.out rfl (by have := HE1.out; omega) (by have := HE1.out; omega) ?_ ?_).mono ?_
            · exact HPn.out
            · exact HQ4.out
            rintro e w' ⟨rfl, kq, rfl⟩
            go_wp2_with fail
            go_roundw
            case rel => exact ⟨n + 1, by omega, by go_num, by rw [HG.out], (by first | exact ⟨_, rfl⟩ | (simp only [World.drewN_drewN]; exact ⟨_, rfl⟩))⟩
            case measure => simp [intOf]; omega
      · have h1' : ¬ (n : Int) < (l.length : Int) + 1 := by omega
        have hnn : n = l.length + 1 := by omega
        have HLo : Hid (longest K n = K) := hd (by unfold longest; omega)
        have hKK : commonL l m = l.take K := by rw [HK.out]; rfl
        have hsc : sameL (commonL l m) (commonL m l) = true := by rw [commonL_comm]; unfold sameL; simp
        have hlc : (commonL l m).length = K := by rw [commonL_length, HK.out]
        have hlc2 : (commonL m l).length = K := by rw [← commonL_comm, hlc]
        obtain ⟨bL, oL, An, cn, rfl, hlL, cc, hcn, pn⟩ := HR4.out.at_ (show K < (levelsL l).length by rw [levelsL_length]; omega)
        rw [lAt_levels l K (by omega), ← hKK] at cc hcn pn
        rw [hlc] at cc hcn
        obtain ⟨q, hqe⟩ : ∃ q, q = commonL l m := ⟨_, rfl⟩
        have hsq : sameL q q = true := by unfold sameL; simp
        have HC5 := hd HC4.out
        rw [← hqe] at pn hlc hsc HC5
        have H1 := hd hsq
        have H2 := hd hsc
        have H3 := hd hlc2
        have HE1 := hd hlc
        have HPn := hd pn
        have hK1 : (K : Int) < (l.length : Int) + 1 := by omega
        clear hqe hsq hsc hlc hlc2 hKK pn hnn
        simp only [HLo.out]
        clear HLo
        go_wp2_with fail
        refine (same_is AC An q q K K cC cn true H1.out _ HE1.out HE1.out (by have := HE1.out; omega) (by have := HE1.out; omega) ?_ ?_).mono ?_
        · exact HC5.out
        · exact HPn.out
        rintro e w' ⟨rfl, kq, rfl⟩
        go_wp2_with fail
        refine (common_any B A m l d c _ (by omega) (by omega) hd1 ?_ ?_).mono ?_
        · exact HQ4.out
        · exact HP4.out
        intro e w5 h5
        obtain ⟨AD, cD, rfl, hcD, hCD, hb5⟩ := h5.open_ K H3.out
        clear h5
        have hb4' : Below w4.heap.size w4 w5 := (below_drewN (Below.refl _ _) _).trans hb5
        have HC6 := hd (HC5.out.later hb4')
        have HD6 := hd hCD
        clear hCD
        go_wp2_with fail
        refine (same_is AC AD q (commonL m l) K K cC cD true H2.out w5 HE1.out H3.out (by have := HE1.out; omega) (by have := H3.out; omega) HC6.out HD6.out).mono ?_
        rintro e w6 ⟨rfl, k6, rfl⟩
        go_wp2_with fail
        go_ret
        exact ⟨rfl, below_drewN (hb4.trans (hb4'.mono hb4.size)) _⟩

end Go.Proofs.Ytpjibfopfdbnjaa
