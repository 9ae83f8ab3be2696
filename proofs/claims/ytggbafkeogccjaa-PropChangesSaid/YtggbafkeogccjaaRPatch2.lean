/- The document's Patch of three lists that may be. -/
import Derived.Test.YtggbafkeogccjaaRPatch
namespace Go.Proofs.Ytggbafkeogccjaa
open Go.RowKit

set_option maxRecDepth 100000 in
set_option maxHeartbeats 8000000 in
theorem rpatch_ok (A B C : Option Addr) (l old new : List Pr) (c d f : Nat) (w : World) (hl : chk l = 0) (ho : chk old = 0) (hn : chk new = 0) (hp : PL w w.heap.size A l) (hq : PL w w.heap.size B old) (hr : PL w w.heap.size C new) :
    Calls Try.prog 18 #[.slice A l.length c, .slice B old.length d, .slice C new.length f] w (PatchRes w l old new) := by
  have HLL := hd (LL3 c d f hp hq hr)
  have HF := hd (fit_of_chk hl)
  have HG := hd (fit_of_chk ho)
  have HH := hd (fit_of_chk hn)
  have HFit : Hid (∀ k, k < 3 → Fit (three l old new k) ∧ chk (three l old new k) = 0) := hd fun k hk => by
    match k, hk with
    | 0, _ => exact ⟨HF.out, hl⟩
    | 1, _ => exact ⟨HG.out, ho⟩
    | 2, _ => exact ⟨HH.out, hn⟩
  have HAl := hd (apart_of_chk hl)
  have l16 := ((chk_zero l).1 hl).1
  have o16 := ((chk_zero old).1 ho).1
  have n16 := ((chk_zero new).1 hn).1
  have HP := hd hp
  have HQ := hd hq
  have HR := hd hr
  have Hl := hd hl
  have Hn := hd hn
  clear hl ho hn hp hq hr
  go_enter Try.func18, Try.ntmps18
  go_wp2
  go_loopw [29] (fun i wr => ∃ k : Nat, k ≤ 3 ∧ i = .int .i64 k ∧ Below (w.heap.size + 1) (w.alloc (.cells #[.slice A l.length c, .slice B old.length d, .slice C new.length f] 22)) wr) (fun i _ => 3 - (intOf i).toNat)
  case atStart => exact ⟨0, by omega, rfl, Below.refl _ _⟩
  case round =>
    obtain ⟨k, hk, rfl, hb⟩ := hrel
    have hw : Below w.heap.size w wr := ((Below.refl _ _).alloc (Nat.le_refl _) _).trans (hb.mono (by omega))
    by_cases hlt : k < 3
    · obtain ⟨hc0, hp0⟩ := HLL.out.2 k hlt
      obtain ⟨hF, hcz⟩ := HFit.out k hlt
      have hc := (hb.cell (p := ⟨w.heap.size, 0 + k, none⟩) (by simp)).trans hc0
      rw [Nat.zero_add] at hc
      have hp1 := (hp0.below (B := _) (hb.mono (by simp))).more hb.size
      have hC := hd (rcheck_is (three A B C k) (three l old new k) (three c d f k) wr hF hp1 0 hcz)
      clear hc0 hp0 hcz hp1 hF
      go_wp2_with (first | (go_at_call 14; refine hC.out.mono ?_; rintro e w3 ⟨rfl, hb3⟩))
      have hb4 := hb.trans (hb3.mono (by have := hb.size; simp at this; omega))
      go_roundw
      case rel => exact ⟨k + 1, by omega, by go_num, hb4⟩
      case measure => simp [intOf]; omega
    · clear hb HLL HFit
      obtain ⟨wa, hwa⟩ : ∃ wa : World, wa = wr := ⟨_, rfl⟩
      subst hwa
      go_wp2
      clear hlt hk
      go_loopw [41] (fun i wr => ∃ n : Nat, n ≤ old.length ∧ i = .int .i64 n ∧ Below w.heap.size w wr ∧ Hid (∀ j, j < n → hasB l ((prAt old j).1, (prAt old j).2) = true)) (fun i _ => old.length - (intOf i).toNat)
      case atStart => exact ⟨0, Nat.zero_le _, rfl, hw, fun j hj => absurd hj (Nat.not_lt_zero _)⟩
      case round =>
        clear hw
        obtain ⟨n, hn, rfl, hb, HX⟩ := hrel
        by_cases hlt : n < old.length
        · obtain ⟨g, o, rfl, hlg, c1, c2⟩ := (HQ.out.below hb).at_ hlt
          have hbx := hb.alloc hb.size (.cells #[.string (prAt old n).1, .string (prAt old n).2] 36)
          have hp1 := (HP.out.later hbx)
          cases hh : hasB l ((prAt old n).1, (prAt old n).2)
          · have HE : Hid (patchE l old new = 9) := hd (by unfold patchE; rw [if_pos (strange_at hlt hh)])
            have hC := hd (rhas_is A l c (prAt old n).1 (prAt old n).2 _ hh _ (by omega) hp1)
            clear hh hp1
            go_wp2_with (first | (go_at_call 30; refine hC.out.mono ?_; rintro e w3 ⟨rfl, hb3⟩))
            go_ret2
            exact res_bad HE.out (by decide) ⟨rfl, hbx.trans (hb3.mono (by have := hb.size; simp; omega))⟩
          · have HY := one_more (p := fun j => hasB l ((prAt old j).1, (prAt old j).2) = true) HX hh
            have hC := hd (rhas_is A l c (prAt old n).1 (prAt old n).2 _ hh _ (by omega) hp1)
            clear hh hp1 HX
            go_wp2_with (first | (go_at_call 30; refine hC.out.mono ?_; rintro e w3 ⟨rfl, hb3⟩))
            have hb4 := hbx.trans (hb3.mono (by have := hb.size; simp; omega))
            go_roundw
            case rel => exact ⟨n + 1, by omega, by go_num, hb4, HY⟩
            case measure => simp [intOf]; omega
        · have HS := hd (strange_not (l := l) (old := old) (fun j hj => HX.out j (by omega)))
          clear HX
          obtain ⟨wb, hwb⟩ : ∃ wb : World, wb = wr := ⟨_, rfl⟩
          subst hwb
          go_wp2
          clear hlt hn
          go_loopw [52] (fun i wr => ∃ n : Nat, n ≤ new.length ∧ i = .int .i64 n ∧ Below w.heap.size w wr ∧ Hid (∀ j, j < n → getB (minus l old) (prAt new j).1 = false)) (fun i _ => new.length - (intOf i).toNat)
          case atStart => exact ⟨0, Nat.zero_le _, rfl, hb, fun j hj => absurd hj (Nat.not_lt_zero _)⟩
          case round =>
            clear hb
            obtain ⟨n, hn, rfl, hb, HX⟩ := hrel
            by_cases hlt : n < new.length
            · obtain ⟨g, o, rfl, hlg, c1, c2⟩ := (HR.out.below hb).at_ hlt
              have hbx := hb.alloc hb.size (.cells #[.string (prAt new n).1, .string (prAt new n).2] 36)
              have hq1 := (HQ.out.later hbx)
              have HK := hd (left_key HAl.out (among_of HS.out) (prAt new n).1)
              cases hwas : getB old (prAt new n).1
              · cases his : getB l (prAt new n).1
                · have HY := one_more (p := fun j => getB (minus l old) (prAt new j).1 = false) HX (by rw [HK.out, his]; rfl)
                  have hC := hd (rget_is B old d (prAt new n).1 _ _ rfl hwas _ (by omega) hq1)
                  have HI := hd his
                  clear hwas his hq1 HX HK
                  go_wp2_with fail
                  refine hC.out.mono ?_
                  rintro e w3 ⟨rfl, hb3⟩
                  obtain ⟨k1, k2⟩ := two_kept hb3
                  have hb4 := hbx.trans (hb3.mono (by have := hb.size; simp; omega))
                  go_wp2_with fail
                  refine (rget_is A l c (prAt new n).1 _ _ rfl HI.out w3 (by omega) (HP.out.later hb4)).mono ?_
                  rintro e w4 ⟨rfl, hb5⟩
                  have hb6 := hb4.trans (hb5.mono hb4.size)
                  go_wp2
                  go_roundw
                  case rel => exact ⟨n + 1, by omega, by go_num, hb6, HY⟩
                  case measure => simp [intOf]; omega
                · have HE : Hid (patchE l old new = 9) := hd (by
                    unfold patchE
                    rw [HS.out, clash_at hlt (by rw [HK.out, his, hwas]; rfl)]; rfl)
                  have hC := hd (rget_is B old d (prAt new n).1 _ _ rfl hwas _ (by omega) hq1)
                  have HI := hd his
                  clear hwas his hq1 HX HK
                  go_wp2_with fail
                  refine hC.out.mono ?_
                  rintro e w3 ⟨rfl, hb3⟩
                  obtain ⟨k1, k2⟩ := two_kept hb3
                  have hb4 := hbx.trans (hb3.mono (by have := hb.size; simp; omega))
                  go_wp2_with fail
                  refine (rget_is A l c (prAt new n).1 _ _ rfl HI.out w3 (by omega) (HP.out.later hb4)).mono ?_
                  rintro e w4 ⟨rfl, hb5⟩
                  go_wp2
                  go_ret2
                  exact res_bad HE.out (by decide) ⟨rfl, hb4.trans (hb5.mono hb4.size)⟩
              · have HY := one_more (p := fun j => getB (minus l old) (prAt new j).1 = false) HX (by rw [HK.out, hwas]; simp)
                have hC := hd (rget_is B old d (prAt new n).1 _ _ rfl hwas _ (by omega) hq1)
                clear hwas hq1 HX HK
                cases his : getB l (prAt new n).1
                all_goals
                  have HI := hd his
                  clear his
                  go_wp2_with fail
                  refine hC.out.mono ?_
                  rintro e w3 ⟨rfl, hb3⟩
                  obtain ⟨k1, k2⟩ := two_kept hb3
                  have hb4 := hbx.trans (hb3.mono (by have := hb.size; simp; omega))
                  go_wp2_with fail
                  refine (rget_is A l c (prAt new n).1 _ _ rfl HI.out w3 (by omega) (HP.out.later hb4)).mono ?_
                  rintro e w4 ⟨rfl, hb5⟩
                  have hb6 := hb4.trans (hb5.mono hb4.size)
                  go_wp2
                  go_roundw
                  case rel => exact ⟨n + 1, by omega, by go_num, hb6, HY⟩
                  case measure => simp [intOf]; omega
            · have HCl := hd (clash_not (l := minus l old) (new := new) (fun j hj => HX.out j (by omega)))
              clear HX
              obtain ⟨wc, hwc⟩ : ∃ wc : World, wc = wr := ⟨_, rfl⟩
              subst hwc
              go_wp2
              clear hlt hn
              go_loopw [19, 78] (fun v i wr => ∃ n : Nat, n ≤ l.length ∧ i = .int .i64 n ∧ OwnP wr w.heap.size v (minus (l.take n) old) ∧ Below w.heap.size w wr) (fun _ i _ => l.length - (intOf i).toNat)
              case atStart => exact ⟨0, Nat.zero_le _, rfl, OwnP.nil _ _, hb⟩
              case round =>
                clear hb
                obtain ⟨n, hn, rfl, hO, hb⟩ := hrel
                by_cases hlt : n < l.length
                · obtain ⟨g, o, rfl, hlg, c1, c2⟩ := (HP.out.below hb).at_ hlt
                  have hml := minus_len (l.take n) old
                  have hol : (minus (l.take n) old).length ≤ 1000 := by rw [List.length_take] at hml; omega
                  have HOL := hd hol
                  have hbx := hb.alloc hb.size (.cells #[.string (prAt l n).1, .string (prAt l n).2] 36)
                  have hq1 := (HQ.out.later hbx)
                  have hO1 := hO.alloc (.cells #[.string (prAt l n).1, .string (prAt l n).2] 36)
                  clear hml hol
                  cases hh : hasB old ((prAt l n).1, (prAt l n).2)
                  · have HT := hd (minus_keep hlt hh)
                    have hC := hd (rhas_is B old d (prAt l n).1 (prAt l n).2 _ hh _ (by omega) hq1)
                    clear hh hq1
                    go_wp2_with (first
                      | (go_at_call 30; refine hC.out.mono ?_; rintro e w3 ⟨rfl, hb3⟩; obtain ⟨k1, k2⟩ := two_kept hb3; have hO2 := hO1.below hb3; have hb4 := hbx.trans (hb3.mono (by have := hb.size; simp; omega)); have hs4 := hb4.size)
                      | (at_builtin; refine wpList_append_P _ rfl (.tmp 86) (.tmp 88) rfl w.heap.size _ _ rfl hO2 (prAt l n).1 (prAt l n).2 w3.heap.size rfl rfl HOL.out hs4 ?_; intro v5 w5 hO5 hG5))
                    go_roundw
                    case rel => exact ⟨n + 1, by omega, by go_num, by rw [HT.out]; exact hO5, hG5.below _ _ (Nat.le_refl _) hs4 hb4⟩
                    case measure => simp [intOf]; omega
                  · have HT := hd (minus_skip hlt hh)
                    have hC := hd (rhas_is B old d (prAt l n).1 (prAt l n).2 _ hh _ (by omega) hq1)
                    clear hh hq1
                    go_wp2_with (first
                      | (go_at_call 30; refine hC.out.mono ?_; rintro e w3 ⟨rfl, hb3⟩))
                    have hO2 := hO1.below hb3
                    have hb4 := hbx.trans (hb3.mono (by have := hb.size; simp; omega))
                    go_roundw
                    case rel => exact ⟨n + 1, by omega, by go_num, by rw [HT.out]; exact hO2, hb4⟩
                    case measure => simp [intOf]; omega
                · have hO9 : OwnP wr w.heap.size u19 (minus l old) := by rw [List.take_of_length_le (by omega)] at hO; exact hO
                  have hml := minus_len l old
                  clear hO
                  obtain ⟨wd, hwd⟩ : ∃ wd : World, wd = wr := ⟨_, rfl⟩
                  subst hwd
                  go_wp2
                  clear hlt hn
                  go_loopw [19, 93] (fun v i wr => ∃ n : Nat, n ≤ new.length ∧ i = .int .i64 n ∧ OwnP wr w.heap.size v (fold (minus l old) (new.take n)) ∧ Below w.heap.size w wr) (fun _ i _ => new.length - (intOf i).toNat)
                  case atStart => exact ⟨0, Nat.zero_le _, rfl, hO9, hb⟩
                  case round =>
                    clear hb hO9
                    obtain ⟨n, hn, rfl, hO, hb⟩ := hrel
                    have hlen := fold_length (minus l old) (new.take n)
                    have htl : (new.take n).length ≤ new.length := by rw [List.length_take]; omega
                    by_cases hlt : n < new.length
                    · obtain ⟨g, o, rfl, hlg, c1, c2⟩ := (HR.out.below hb).at_ hlt
                      have HT := hd (take_more new n hlt)
                      have HSn := hd (fold_snoc (minus l old) (new.take n) ((prAt new n).1, (prAt new n).2))
                      obtain ⟨acc, hacc⟩ : ∃ acc, acc = fold (minus l old) (new.take n) := ⟨_, rfl⟩
                      rw [← hacc] at hO hlen
                      have HAcc := hd hacc
                      have hac : acc.length ≤ 900 := by omega
                      clear hacc hlen
                      have hbx := hb.alloc hb.size (.cells #[.string (prAt new n).1, .string (prAt new n).2] 36)
                      obtain ⟨A9, c9, hv9, p9⟩ := (hO.alloc (.cells #[.string (prAt new n).1, .string (prAt new n).2] 36)).PL
                      have P9 := hd p9
                      clear p9 hO
                      subst hv9
                      have hC := hd (rput_any A9 acc c9 (prAt new n).1 (prAt new n).2 _ hac P9.out)
                      go_wp2_with (first
                        | (go_at_call 31; refine hC.out.mono ?_; rintro e w3 ⟨v3, rfl, hO3, hb3⟩))
                      have hb4 := hbx.trans (hb3.mono (by have := hb.size; simp; omega))
                      have hO4 := hO3.base hbx.size
                      go_roundw
                      case rel => exact ⟨n + 1, by omega, by go_num, by rw [HT.out, HSn.out, ← HAcc.out]; exact hO4, hb4⟩
                      case measure => simp [intOf]; omega
                    · have hO10 : OwnP wr w.heap.size u19 (fold (minus l old) new) := by rw [List.take_of_length_le (by omega)] at hO; exact hO
                      have hlen2 := fold_length (minus l old) new
                      have HPt := hd (fold_patch Hl.out Hn.out HCl.out)
                      rw [HPt.out] at hO10 hlen2
                      obtain ⟨r, hr⟩ : ∃ r, r = patchL l old new := ⟨_, rfl⟩
                      rw [← hr] at hO10 hlen2
                      have HRr := hd hr
                      clear hr hO hlen htl HPt
                      obtain ⟨A9, c9, hv9, hO11⟩ := hO10
                      have HO := hd hO11
                      clear hO11
                      subst hv9
                      by_cases h16 : (16 : Int) < (r.length : Int)
                      · have HE : Hid (patchE l old new = 2) := hd (by
                          unfold patchE
                          rw [HS.out, HCl.out, if_neg (by simp), if_neg (by simp), if_pos (by omega)])
                        clear hlen2
                        go_wp2
                        go_ret2
                        exact res_bad HE.out (by decide) ⟨rfl, hb⟩
                      · have HE : Hid (patchE l old new = 0) := hd (by
                          unfold patchE
                          rw [HS.out, HCl.out, if_neg (by simp), if_neg (by simp), if_neg (by omega)])
                        clear hlen2
                        go_wp2
                        go_ret2
                        exact res_ok HE.out ⟨_, rfl, by rw [← HRr.out]; exact ⟨A9, c9, rfl, HO.out⟩, hb⟩

end Go.Proofs.Ytggbafkeogccjaa
