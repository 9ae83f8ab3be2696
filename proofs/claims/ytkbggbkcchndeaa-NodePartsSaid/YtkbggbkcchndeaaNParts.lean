/- NodeParts answers true. -/
import Derived.Test.YtkbggbkcchndeaaNFew
namespace Go.Proofs.Ytkbggbkcchndeaa
open Go.RowKit

theorem all_step {ks : List NT} {k : Nat} {m : NT} {M b x : Bool} (h : ks[k]? = some m) (hb : b = (M && (ks.take k).all fun m => checkT m == 0)) (hx : (checkT m == 0) = x) : (b && x) = (M && (ks.take (k + 1)).all fun m => checkT m == 0) := by
  subst hb hx
  rw [take_one h, List.all_append]
  simp [Bool.and_assoc]
theorem Eff0 {w w' w'' : World} (h : Below w.heap.size w w') (h' : Below w'.heap.size w' w'') : Below w.heap.size w w'' := h.trans (h'.mono h.size)

set_option maxHeartbeats 16000000 in
theorem parts_any (d : Nat) (w : World) (v : Value) (n : NT) (hn : NodeAt d w w.heap.size v n) : Calls Try.prog 7 #[v] w (Still (.bool true) w) := by
  have hn0 := hn
  obtain ⟨d', lf, ps, tx, ks, PA, pc, TA, tc, KA, kc, hd', rfl, rfl, hp, ht, hf, hks⟩ := hn.open_
  have hb1 : Below w.heap.size w (w.alloc (.cells #[.bool lf, .slice PA ps.length pc, .slice TA tx.length tc, .slice KA ks.length kc] 26)) := (Below.refl _ _).alloc (Nat.le_refl _) _
  have HL := hd (live_any (w.alloc (.cells #[.bool lf, .slice PA ps.length pc, .slice TA tx.length tc, .slice KA ks.length kc] 26)))
  have HC := fun (w' : World) (hb : Below w.heap.size w w') => hd (few_any d w' _ _ 200 (by unfold In64; omega) (hn0.later hb))
  have HP := fun (w' : World) (hb : Below w.heap.size w w') => hd (pcheck_any PA ps pc w' hf.1 ((hp.below hb).more hb.size))
  have HG := fun (w' : World) (hb : Below w.heap.size w w') => hd (check_any TA tx tx.length tc w' rfl (by have := hf.2.2.1; omega) ((ht.below hb).more hb.size))
  have HK := fun (w' : World) (hb : Below w.heap.size w w') => hd (ncheck_any d w' _ _ (hn0.later hb))
  have HB := hd hb1
  have HKS := hd hks
  have hl2 := hf.2.2.1
  have hl3 := hf.2.2.2
  have hfit := hd hn0.fit
  obtain ⟨F, hF⟩ : ∃ F, F = fewB 200 (.mk lf ps tx ks) := ⟨_, rfl⟩
  simp only [← hF] at HC
  clear hn hn0 hp ht hf hks hd' hb1
  cases F
  · clear HG HP HK HKS hF hfit
    go_enter Try.func7, Try.ntmps7
    go_wp2_with (first
      | (go_at_call 9; refine HL.out.mono ?_; rintro e w1 ⟨rfl, b1⟩; obtain ⟨x0, x1, x2, x3⟩ := box4 b1; have B1 := hd (HB.out.trans (b1.mono HB.out.size)))
      | (go_at_call 10; refine (HC _ B1.out).out.mono ?_; rintro e w2 ⟨rfl, b2⟩))
    go_ret
    exact ⟨rfl, B1.out.trans (b2.mono B1.out.size)⟩
  · have HEQ := hd (parts_eq hfit.out hF.symm)
    clear hF hfit
    obtain ⟨C, hC⟩ : ∃ C, checkT (.mk lf ps tx ks) = C := ⟨_, rfl⟩
    obtain ⟨E, hE⟩ : ∃ E, chk ps = E := ⟨_, rfl⟩
    obtain ⟨T, hT⟩ : ∃ T, chkL tx = T := ⟨_, rfl⟩
    obtain ⟨M, hM⟩ : ∃ M, (oneE lf ps tx ks.length == 0) = M := ⟨_, rfl⟩
    simp only [hC] at HK
    simp only [hE] at HP
    simp only [hT] at HG
    rw [hM, hC] at HEQ
    have hcase : (E ≠ 0 ∧ M = false) ∨ (E = 0 ∧ T ≠ 0 ∧ M = false) ∨ (E = 0 ∧ T = 0 ∧ lf = true ∧ 0 < ks.length ∧ M = false) ∨ (E = 0 ∧ T = 0 ∧ lf = true ∧ ¬ 0 < ks.length ∧ M = true) ∨ (E = 0 ∧ T = 0 ∧ lf = false ∧ 0 < tx.length ∧ M = false) ∨ (E = 0 ∧ T = 0 ∧ lf = false ∧ ¬ 0 < tx.length ∧ M = true) := by
      rcases Classical.em (E = 0) with e | e
      · subst e
        rcases Classical.em (T = 0) with t | t
        · subst t
          cases lf
          · rcases Nat.eq_zero_or_pos tx.length with h | h
            · exact .inr (.inr (.inr (.inr (.inr ⟨rfl, rfl, rfl, by omega, by rw [← hM, oneE_text hE (.inr ⟨rfl, h⟩), hT]; rfl⟩))))
            · exact .inr (.inr (.inr (.inr (.inl ⟨rfl, rfl, rfl, h, by rw [← hM, oneE_leaf hE (.inr ⟨rfl, h⟩)]; rfl⟩))))
          · rcases Nat.eq_zero_or_pos ks.length with h | h
            · exact .inr (.inr (.inr (.inl ⟨rfl, rfl, rfl, by omega, by rw [← hM, oneE_text hE (.inl ⟨rfl, h⟩), hT]; rfl⟩)))
            · exact .inr (.inr (.inl ⟨rfl, rfl, rfl, h, by rw [← hM, oneE_leaf hE (.inl ⟨rfl, h⟩)]; rfl⟩))
        · refine .inr (.inl ⟨rfl, t, ?_⟩)
          rw [← hM, beq_eq_false_iff_ne]
          unfold oneE
          rw [if_neg (by simp [hE]), hT]
          split
          · decide
          · exact t
      · exact .inl ⟨e, by rw [← hM, oneE_prop (by rw [hE]; exact e), hE]; exact beq_eq_false_iff_ne.2 e⟩
    clear hC hE hT hM
    rcases hcase with ⟨h1, rfl⟩ | ⟨rfl, h1, rfl⟩ | ⟨rfl, rfl, rfl, h1, rfl⟩ | ⟨rfl, rfl, rfl, h1, rfl⟩ | ⟨rfl, rfl, rfl, h1, rfl⟩ | ⟨rfl, rfl, rfl, h1, rfl⟩
    · have z1 : (E == 0) = false := by simp [h1]
      have z2 : (E != 0) = true := by simp [h1]
      clear h1
      go_enter Try.func7, Try.ntmps7
      go_wp2_with (first
        | (go_at_call 9; refine HL.out.mono ?_; rintro e w1 ⟨rfl, b1⟩; have X1 := hd ((Box.new _ _ _ _ _ _).keep b1); obtain ⟨x0, x1, x2, x3⟩ := X1.out; have B1 := hd (HB.out.trans (b1.mono HB.out.size)))
        | (go_at_call 10; refine (HC _ B1.out).out.mono ?_; rintro e w2 ⟨rfl, b2⟩; have X2 := hd (X1.out.keep b2); have B2 := hd (B1.out.trans (b2.mono B1.out.size)); clear x0 x1 x2 x3; obtain ⟨x0, x1, x2, x3⟩ := X2.out)
        | (go_at_call 25; refine (HP _ B2.out).out.mono ?_; rintro e w3 ⟨rfl, b3⟩; have X3 := hd (X2.out.keep b3); have B3 := hd (B2.out.trans (b3.mono B2.out.size)); clear x0 x1 x2 x3; obtain ⟨x0, x1, x2, x3⟩ := X3.out)
        | (go_at_call 26; refine (HG _ B3.out).out.mono ?_; rintro e w4 ⟨rfl, rfl⟩))
      clear x0 x1 x2 x3 HL HC HP HG X1 X2 b1 b2 b3 z1
      first | clear h1 | skip
      go_loopw [3, 45] (fun z i wr => ∃ (k : Nat) (b : Bool), k ≤ ks.length ∧ z = .bool b ∧ i = .int .i64 k ∧ Hid (Below w3.heap.size w3 wr) ∧ Hid (b = (false && (ks.take k).all fun m => checkT m == 0))) (fun _ i _ => ks.length - (intOf i).toNat)
      case atStart => exact ⟨0, false, Nat.zero_le _, rfl, rfl, hd (Below.refl _ _), hd (by simp)⟩
      case round =>
        obtain ⟨k, b, hk, rfl, rfl, HR, HA⟩ := hrel
        have hbr := B3.out.trans (HR.out.mono B3.out.size)
        by_cases hlt : k < ks.length
        · obtain ⟨m, c, o, lf1, PA1, np1, pc1, TA1, nt1, tc1, KA1, nk1, kc1, hm, rfl, hbg, hnm, c0, c1, c2, c3⟩ := (HKS.out.below hbr).at_ hlt
          have hsz := hbr.size
          have HBR := hd hbr
          cases b
          · have HB2 := hd (show false = (false && (ks.take (k + 1)).all fun m => checkT m == 0) from (show (false && (checkT m == 0)) = _ from all_step hm HA.out rfl))
            clear HA hm hnm hbr HK
            go_wp2
            go_roundw
            case rel => exact ⟨k + 1, false, by omega, rfl, by go_num, hd (HR.out.alloc HR.out.size _), HB2⟩
            case measure => simp [intOf]; omega
          · obtain ⟨wk, hwk⟩ : ∃ wk, wk = wr.alloc (.cells #[.bool lf1, .slice PA1 np1 pc1, .slice TA1 nt1 tc1, .slice KA1 nk1 kc1] 26) := ⟨_, rfl⟩
            have hbk : Below w3.heap.size w3 wk := hwk ▸ HR.out.alloc HR.out.size _
            have hbk2 : Below wr.heap.size wr wk := hwk ▸ (Below.refl _ _).alloc (Nat.le_refl _) _
            have HN := hd (ncheck_any d' wk _ m ((((hnm.more hsz).below hbk2)).more hbk2.size))
            have HK2 := hd hbk
            obtain ⟨x, hx⟩ : ∃ x, checkT m = x := ⟨_, rfl⟩
            rw [hx] at HN
            obtain ⟨y, hy⟩ : ∃ y, (x == 0) = y := ⟨_, rfl⟩
            have HB2 := hd (show y = (false && (ks.take (k + 1)).all fun m => checkT m == 0) from (show (true && y) = _ from all_step hm HA.out (by rw [hx, hy])))
            have hy2 : (x != 0) = !y := by rw [← hy]; rfl
            subst hwk
            clear HA hm hnm hbr hx hbk hbk2 HK
            cases y
            all_goals
              go_wp2_with (first | (go_at_call 14; refine HN.out.mono ?_; rintro e w5 ⟨rfl, b5⟩))
              go_roundw
              case rel => exact ⟨k + 1, _, by omega, rfl, by go_num, hd (HK2.out.trans (b5.mono HK2.out.size)), HB2⟩
              case measure => simp [intOf]; omega
        · have HF : (C == 0) = b := by rw [HEQ.out, HA.out, List.take_of_length_le (by omega)]
          have HF2 : (C != 0) = !b := by rw [← HF]; rfl
          obtain ⟨x0, x1, x2, x3⟩ := X3.out.keep HR.out
          have HBR := hd hbr
          clear HA HEQ HKS hbr
          cases b
          all_goals
            go_wp2_with (first | (go_at_call 14; refine (HK _ HBR.out).out.mono ?_; rintro e w5 ⟨rfl, b5⟩))
            go_ret
            exact ⟨rfl, HBR.out.trans (b5.mono HBR.out.size)⟩
    · have z1 : (T == 0) = false := by simp [h1]
      have z2 : (T != 0) = true := by simp [h1]
      clear h1
      go_enter Try.func7, Try.ntmps7
      go_wp2_with (first
        | (go_at_call 9; refine HL.out.mono ?_; rintro e w1 ⟨rfl, b1⟩; have X1 := hd ((Box.new _ _ _ _ _ _).keep b1); obtain ⟨x0, x1, x2, x3⟩ := X1.out; have B1 := hd (HB.out.trans (b1.mono HB.out.size)))
        | (go_at_call 10; refine (HC _ B1.out).out.mono ?_; rintro e w2 ⟨rfl, b2⟩; have X2 := hd (X1.out.keep b2); have B2 := hd (B1.out.trans (b2.mono B1.out.size)); clear x0 x1 x2 x3; obtain ⟨x0, x1, x2, x3⟩ := X2.out)
        | (go_at_call 25; refine (HP _ B2.out).out.mono ?_; rintro e w3 ⟨rfl, b3⟩; have X3 := hd (X2.out.keep b3); have B3 := hd (B2.out.trans (b3.mono B2.out.size)); clear x0 x1 x2 x3; obtain ⟨x0, x1, x2, x3⟩ := X3.out)
        | (go_at_call 26; refine (HG _ B3.out).out.mono ?_; rintro e w4 ⟨rfl, rfl⟩))
      clear x0 x1 x2 x3 HL HC HP HG X1 X2 b1 b2 b3 z1
      first | clear h1 | skip
      go_loopw [3, 45] (fun z i wr => ∃ (k : Nat) (b : Bool), k ≤ ks.length ∧ z = .bool b ∧ i = .int .i64 k ∧ Hid (Below w3.heap.size w3 wr) ∧ Hid (b = (false && (ks.take k).all fun m => checkT m == 0))) (fun _ i _ => ks.length - (intOf i).toNat)
      case atStart => exact ⟨0, false, Nat.zero_le _, rfl, rfl, hd (Below.refl _ _), hd (by simp)⟩
      case round =>
        obtain ⟨k, b, hk, rfl, rfl, HR, HA⟩ := hrel
        have hbr := B3.out.trans (HR.out.mono B3.out.size)
        by_cases hlt : k < ks.length
        · obtain ⟨m, c, o, lf1, PA1, np1, pc1, TA1, nt1, tc1, KA1, nk1, kc1, hm, rfl, hbg, hnm, c0, c1, c2, c3⟩ := (HKS.out.below hbr).at_ hlt
          have hsz := hbr.size
          have HBR := hd hbr
          cases b
          · have HB2 := hd (show false = (false && (ks.take (k + 1)).all fun m => checkT m == 0) from (show (false && (checkT m == 0)) = _ from all_step hm HA.out rfl))
            clear HA hm hnm hbr HK
            go_wp2
            go_roundw
            case rel => exact ⟨k + 1, false, by omega, rfl, by go_num, hd (HR.out.alloc HR.out.size _), HB2⟩
            case measure => simp [intOf]; omega
          · obtain ⟨wk, hwk⟩ : ∃ wk, wk = wr.alloc (.cells #[.bool lf1, .slice PA1 np1 pc1, .slice TA1 nt1 tc1, .slice KA1 nk1 kc1] 26) := ⟨_, rfl⟩
            have hbk : Below w3.heap.size w3 wk := hwk ▸ HR.out.alloc HR.out.size _
            have hbk2 : Below wr.heap.size wr wk := hwk ▸ (Below.refl _ _).alloc (Nat.le_refl _) _
            have HN := hd (ncheck_any d' wk _ m ((((hnm.more hsz).below hbk2)).more hbk2.size))
            have HK2 := hd hbk
            obtain ⟨x, hx⟩ : ∃ x, checkT m = x := ⟨_, rfl⟩
            rw [hx] at HN
            obtain ⟨y, hy⟩ : ∃ y, (x == 0) = y := ⟨_, rfl⟩
            have HB2 := hd (show y = (false && (ks.take (k + 1)).all fun m => checkT m == 0) from (show (true && y) = _ from all_step hm HA.out (by rw [hx, hy])))
            have hy2 : (x != 0) = !y := by rw [← hy]; rfl
            subst hwk
            clear HA hm hnm hbr hx hbk hbk2 HK
            cases y
            all_goals
              go_wp2_with (first | (go_at_call 14; refine HN.out.mono ?_; rintro e w5 ⟨rfl, b5⟩))
              go_roundw
              case rel => exact ⟨k + 1, _, by omega, rfl, by go_num, hd (HK2.out.trans (b5.mono HK2.out.size)), HB2⟩
              case measure => simp [intOf]; omega
        · have HF : (C == 0) = b := by rw [HEQ.out, HA.out, List.take_of_length_le (by omega)]
          have HF2 : (C != 0) = !b := by rw [← HF]; rfl
          obtain ⟨x0, x1, x2, x3⟩ := X3.out.keep HR.out
          have HBR := hd hbr
          clear HA HEQ HKS hbr
          cases b
          all_goals
            go_wp2_with (first | (go_at_call 14; refine (HK _ HBR.out).out.mono ?_; rintro e w5 ⟨rfl, b5⟩))
            go_ret
            exact ⟨rfl, HBR.out.trans (b5.mono HBR.out.size)⟩
    · have z1 : ((ks.length : Int) == 0) = false := beq_eq_false_iff_ne.2 (by omega)
      go_enter Try.func7, Try.ntmps7
      go_wp2_with (first
        | (go_at_call 9; refine HL.out.mono ?_; rintro e w1 ⟨rfl, b1⟩; have X1 := hd ((Box.new _ _ _ _ _ _).keep b1); obtain ⟨x0, x1, x2, x3⟩ := X1.out; have B1 := hd (HB.out.trans (b1.mono HB.out.size)))
        | (go_at_call 10; refine (HC _ B1.out).out.mono ?_; rintro e w2 ⟨rfl, b2⟩; have X2 := hd (X1.out.keep b2); have B2 := hd (B1.out.trans (b2.mono B1.out.size)); clear x0 x1 x2 x3; obtain ⟨x0, x1, x2, x3⟩ := X2.out)
        | (go_at_call 25; refine (HP _ B2.out).out.mono ?_; rintro e w3 ⟨rfl, b3⟩; have X3 := hd (X2.out.keep b3); have B3 := hd (B2.out.trans (b3.mono B2.out.size)); clear x0 x1 x2 x3; obtain ⟨x0, x1, x2, x3⟩ := X3.out)
        | (go_at_call 26; refine (HG _ B3.out).out.mono ?_; rintro e w4 ⟨rfl, rfl⟩))
      clear x0 x1 x2 x3 HL HC HP HG X1 X2 b1 b2 b3 z1
      first | clear h1 | skip
      go_loopw [3, 45] (fun z i wr => ∃ (k : Nat) (b : Bool), k ≤ ks.length ∧ z = .bool b ∧ i = .int .i64 k ∧ Hid (Below w3.heap.size w3 wr) ∧ Hid (b = (false && (ks.take k).all fun m => checkT m == 0))) (fun _ i _ => ks.length - (intOf i).toNat)
      case atStart => exact ⟨0, false, Nat.zero_le _, rfl, rfl, hd (Below.refl _ _), hd (by simp)⟩
      case round =>
        obtain ⟨k, b, hk, rfl, rfl, HR, HA⟩ := hrel
        have hbr := B3.out.trans (HR.out.mono B3.out.size)
        by_cases hlt : k < ks.length
        · obtain ⟨m, c, o, lf1, PA1, np1, pc1, TA1, nt1, tc1, KA1, nk1, kc1, hm, rfl, hbg, hnm, c0, c1, c2, c3⟩ := (HKS.out.below hbr).at_ hlt
          have hsz := hbr.size
          have HBR := hd hbr
          cases b
          · have HB2 := hd (show false = (false && (ks.take (k + 1)).all fun m => checkT m == 0) from (show (false && (checkT m == 0)) = _ from all_step hm HA.out rfl))
            clear HA hm hnm hbr HK
            go_wp2
            go_roundw
            case rel => exact ⟨k + 1, false, by omega, rfl, by go_num, hd (HR.out.alloc HR.out.size _), HB2⟩
            case measure => simp [intOf]; omega
          · obtain ⟨wk, hwk⟩ : ∃ wk, wk = wr.alloc (.cells #[.bool lf1, .slice PA1 np1 pc1, .slice TA1 nt1 tc1, .slice KA1 nk1 kc1] 26) := ⟨_, rfl⟩
            have hbk : Below w3.heap.size w3 wk := hwk ▸ HR.out.alloc HR.out.size _
            have hbk2 : Below wr.heap.size wr wk := hwk ▸ (Below.refl _ _).alloc (Nat.le_refl _) _
            have HN := hd (ncheck_any d' wk _ m ((((hnm.more hsz).below hbk2)).more hbk2.size))
            have HK2 := hd hbk
            obtain ⟨x, hx⟩ : ∃ x, checkT m = x := ⟨_, rfl⟩
            rw [hx] at HN
            obtain ⟨y, hy⟩ : ∃ y, (x == 0) = y := ⟨_, rfl⟩
            have HB2 := hd (show y = (false && (ks.take (k + 1)).all fun m => checkT m == 0) from (show (true && y) = _ from all_step hm HA.out (by rw [hx, hy])))
            have hy2 : (x != 0) = !y := by rw [← hy]; rfl
            subst hwk
            clear HA hm hnm hbr hx hbk hbk2 HK
            cases y
            all_goals
              go_wp2_with (first | (go_at_call 14; refine HN.out.mono ?_; rintro e w5 ⟨rfl, b5⟩))
              go_roundw
              case rel => exact ⟨k + 1, _, by omega, rfl, by go_num, hd (HK2.out.trans (b5.mono HK2.out.size)), HB2⟩
              case measure => simp [intOf]; omega
        · have HF : (C == 0) = b := by rw [HEQ.out, HA.out, List.take_of_length_le (by omega)]
          have HF2 : (C != 0) = !b := by rw [← HF]; rfl
          obtain ⟨x0, x1, x2, x3⟩ := X3.out.keep HR.out
          have HBR := hd hbr
          clear HA HEQ HKS hbr
          cases b
          all_goals
            go_wp2_with (first | (go_at_call 14; refine (HK _ HBR.out).out.mono ?_; rintro e w5 ⟨rfl, b5⟩))
            go_ret
            exact ⟨rfl, HBR.out.trans (b5.mono HBR.out.size)⟩
    · have z1 : ((ks.length : Int) == 0) = true := beq_iff_eq.2 (by omega)
      go_enter Try.func7, Try.ntmps7
      go_wp2_with (first
        | (go_at_call 9; refine HL.out.mono ?_; rintro e w1 ⟨rfl, b1⟩; have X1 := hd ((Box.new _ _ _ _ _ _).keep b1); obtain ⟨x0, x1, x2, x3⟩ := X1.out; have B1 := hd (HB.out.trans (b1.mono HB.out.size)))
        | (go_at_call 10; refine (HC _ B1.out).out.mono ?_; rintro e w2 ⟨rfl, b2⟩; have X2 := hd (X1.out.keep b2); have B2 := hd (B1.out.trans (b2.mono B1.out.size)); clear x0 x1 x2 x3; obtain ⟨x0, x1, x2, x3⟩ := X2.out)
        | (go_at_call 25; refine (HP _ B2.out).out.mono ?_; rintro e w3 ⟨rfl, b3⟩; have X3 := hd (X2.out.keep b3); have B3 := hd (B2.out.trans (b3.mono B2.out.size)); clear x0 x1 x2 x3; obtain ⟨x0, x1, x2, x3⟩ := X3.out)
        | (go_at_call 26; refine (HG _ B3.out).out.mono ?_; rintro e w4 ⟨rfl, rfl⟩))
      clear x0 x1 x2 x3 HL HC HP HG X1 X2 b1 b2 b3 z1
      first | clear h1 | skip
      go_loopw [3, 45] (fun z i wr => ∃ (k : Nat) (b : Bool), k ≤ ks.length ∧ z = .bool b ∧ i = .int .i64 k ∧ Hid (Below w3.heap.size w3 wr) ∧ Hid (b = (true && (ks.take k).all fun m => checkT m == 0))) (fun _ i _ => ks.length - (intOf i).toNat)
      case atStart => exact ⟨0, true, Nat.zero_le _, rfl, rfl, hd (Below.refl _ _), hd (by simp)⟩
      case round =>
        obtain ⟨k, b, hk, rfl, rfl, HR, HA⟩ := hrel
        have hbr := B3.out.trans (HR.out.mono B3.out.size)
        by_cases hlt : k < ks.length
        · obtain ⟨m, c, o, lf1, PA1, np1, pc1, TA1, nt1, tc1, KA1, nk1, kc1, hm, rfl, hbg, hnm, c0, c1, c2, c3⟩ := (HKS.out.below hbr).at_ hlt
          have hsz := hbr.size
          have HBR := hd hbr
          cases b
          · have HB2 := hd (show false = (true && (ks.take (k + 1)).all fun m => checkT m == 0) from (show (false && (checkT m == 0)) = _ from all_step hm HA.out rfl))
            clear HA hm hnm hbr HK
            go_wp2
            go_roundw
            case rel => exact ⟨k + 1, false, by omega, rfl, by go_num, hd (HR.out.alloc HR.out.size _), HB2⟩
            case measure => simp [intOf]; omega
          · obtain ⟨wk, hwk⟩ : ∃ wk, wk = wr.alloc (.cells #[.bool lf1, .slice PA1 np1 pc1, .slice TA1 nt1 tc1, .slice KA1 nk1 kc1] 26) := ⟨_, rfl⟩
            have hbk : Below w3.heap.size w3 wk := hwk ▸ HR.out.alloc HR.out.size _
            have hbk2 : Below wr.heap.size wr wk := hwk ▸ (Below.refl _ _).alloc (Nat.le_refl _) _
            have HN := hd (ncheck_any d' wk _ m ((((hnm.more hsz).below hbk2)).more hbk2.size))
            have HK2 := hd hbk
            obtain ⟨x, hx⟩ : ∃ x, checkT m = x := ⟨_, rfl⟩
            rw [hx] at HN
            obtain ⟨y, hy⟩ : ∃ y, (x == 0) = y := ⟨_, rfl⟩
            have HB2 := hd (show y = (true && (ks.take (k + 1)).all fun m => checkT m == 0) from (show (true && y) = _ from all_step hm HA.out (by rw [hx, hy])))
            have hy2 : (x != 0) = !y := by rw [← hy]; rfl
            subst hwk
            clear HA hm hnm hbr hx hbk hbk2 HK
            cases y
            all_goals
              go_wp2_with (first | (go_at_call 14; refine HN.out.mono ?_; rintro e w5 ⟨rfl, b5⟩))
              go_roundw
              case rel => exact ⟨k + 1, _, by omega, rfl, by go_num, hd (HK2.out.trans (b5.mono HK2.out.size)), HB2⟩
              case measure => simp [intOf]; omega
        · have HF : (C == 0) = b := by rw [HEQ.out, HA.out, List.take_of_length_le (by omega)]
          have HF2 : (C != 0) = !b := by rw [← HF]; rfl
          obtain ⟨x0, x1, x2, x3⟩ := X3.out.keep HR.out
          have HBR := hd hbr
          clear HA HEQ HKS hbr
          cases b
          all_goals
            go_wp2_with (first | (go_at_call 14; refine (HK _ HBR.out).out.mono ?_; rintro e w5 ⟨rfl, b5⟩))
            go_ret
            exact ⟨rfl, HBR.out.trans (b5.mono HBR.out.size)⟩
    · have z1 : ((tx.length : Int) == 0) = false := beq_eq_false_iff_ne.2 (by omega)
      go_enter Try.func7, Try.ntmps7
      go_wp2_with (first
        | (go_at_call 9; refine HL.out.mono ?_; rintro e w1 ⟨rfl, b1⟩; have X1 := hd ((Box.new _ _ _ _ _ _).keep b1); obtain ⟨x0, x1, x2, x3⟩ := X1.out; have B1 := hd (HB.out.trans (b1.mono HB.out.size)))
        | (go_at_call 10; refine (HC _ B1.out).out.mono ?_; rintro e w2 ⟨rfl, b2⟩; have X2 := hd (X1.out.keep b2); have B2 := hd (B1.out.trans (b2.mono B1.out.size)); clear x0 x1 x2 x3; obtain ⟨x0, x1, x2, x3⟩ := X2.out)
        | (go_at_call 25; refine (HP _ B2.out).out.mono ?_; rintro e w3 ⟨rfl, b3⟩; have X3 := hd (X2.out.keep b3); have B3 := hd (B2.out.trans (b3.mono B2.out.size)); clear x0 x1 x2 x3; obtain ⟨x0, x1, x2, x3⟩ := X3.out)
        | (go_at_call 26; refine (HG _ B3.out).out.mono ?_; rintro e w4 ⟨rfl, rfl⟩))
      clear x0 x1 x2 x3 HL HC HP HG X1 X2 b1 b2 b3 z1
      first | clear h1 | skip
      go_loopw [3, 45] (fun z i wr => ∃ (k : Nat) (b : Bool), k ≤ ks.length ∧ z = .bool b ∧ i = .int .i64 k ∧ Hid (Below w3.heap.size w3 wr) ∧ Hid (b = (false && (ks.take k).all fun m => checkT m == 0))) (fun _ i _ => ks.length - (intOf i).toNat)
      case atStart => exact ⟨0, false, Nat.zero_le _, rfl, rfl, hd (Below.refl _ _), hd (by simp)⟩
      case round =>
        obtain ⟨k, b, hk, rfl, rfl, HR, HA⟩ := hrel
        have hbr := B3.out.trans (HR.out.mono B3.out.size)
        by_cases hlt : k < ks.length
        · obtain ⟨m, c, o, lf1, PA1, np1, pc1, TA1, nt1, tc1, KA1, nk1, kc1, hm, rfl, hbg, hnm, c0, c1, c2, c3⟩ := (HKS.out.below hbr).at_ hlt
          have hsz := hbr.size
          have HBR := hd hbr
          cases b
          · have HB2 := hd (show false = (false && (ks.take (k + 1)).all fun m => checkT m == 0) from (show (false && (checkT m == 0)) = _ from all_step hm HA.out rfl))
            clear HA hm hnm hbr HK
            go_wp2
            go_roundw
            case rel => exact ⟨k + 1, false, by omega, rfl, by go_num, hd (HR.out.alloc HR.out.size _), HB2⟩
            case measure => simp [intOf]; omega
          · obtain ⟨wk, hwk⟩ : ∃ wk, wk = wr.alloc (.cells #[.bool lf1, .slice PA1 np1 pc1, .slice TA1 nt1 tc1, .slice KA1 nk1 kc1] 26) := ⟨_, rfl⟩
            have hbk : Below w3.heap.size w3 wk := hwk ▸ HR.out.alloc HR.out.size _
            have hbk2 : Below wr.heap.size wr wk := hwk ▸ (Below.refl _ _).alloc (Nat.le_refl _) _
            have HN := hd (ncheck_any d' wk _ m ((((hnm.more hsz).below hbk2)).more hbk2.size))
            have HK2 := hd hbk
            obtain ⟨x, hx⟩ : ∃ x, checkT m = x := ⟨_, rfl⟩
            rw [hx] at HN
            obtain ⟨y, hy⟩ : ∃ y, (x == 0) = y := ⟨_, rfl⟩
            have HB2 := hd (show y = (false && (ks.take (k + 1)).all fun m => checkT m == 0) from (show (true && y) = _ from all_step hm HA.out (by rw [hx, hy])))
            have hy2 : (x != 0) = !y := by rw [← hy]; rfl
            subst hwk
            clear HA hm hnm hbr hx hbk hbk2 HK
            cases y
            all_goals
              go_wp2_with (first | (go_at_call 14; refine HN.out.mono ?_; rintro e w5 ⟨rfl, b5⟩))
              go_roundw
              case rel => exact ⟨k + 1, _, by omega, rfl, by go_num, hd (HK2.out.trans (b5.mono HK2.out.size)), HB2⟩
              case measure => simp [intOf]; omega
        · have HF : (C == 0) = b := by rw [HEQ.out, HA.out, List.take_of_length_le (by omega)]
          have HF2 : (C != 0) = !b := by rw [← HF]; rfl
          obtain ⟨x0, x1, x2, x3⟩ := X3.out.keep HR.out
          have HBR := hd hbr
          clear HA HEQ HKS hbr
          cases b
          all_goals
            go_wp2_with (first | (go_at_call 14; refine (HK _ HBR.out).out.mono ?_; rintro e w5 ⟨rfl, b5⟩))
            go_ret
            exact ⟨rfl, HBR.out.trans (b5.mono HBR.out.size)⟩
    · have z1 : ((tx.length : Int) == 0) = true := beq_iff_eq.2 (by omega)
      go_enter Try.func7, Try.ntmps7
      go_wp2_with (first
        | (go_at_call 9; refine HL.out.mono ?_; rintro e w1 ⟨rfl, b1⟩; have X1 := hd ((Box.new _ _ _ _ _ _).keep b1); obtain ⟨x0, x1, x2, x3⟩ := X1.out; have B1 := hd (HB.out.trans (b1.mono HB.out.size)))
        | (go_at_call 10; refine (HC _ B1.out).out.mono ?_; rintro e w2 ⟨rfl, b2⟩; have X2 := hd (X1.out.keep b2); have B2 := hd (B1.out.trans (b2.mono B1.out.size)); clear x0 x1 x2 x3; obtain ⟨x0, x1, x2, x3⟩ := X2.out)
        | (go_at_call 25; refine (HP _ B2.out).out.mono ?_; rintro e w3 ⟨rfl, b3⟩; have X3 := hd (X2.out.keep b3); have B3 := hd (B2.out.trans (b3.mono B2.out.size)); clear x0 x1 x2 x3; obtain ⟨x0, x1, x2, x3⟩ := X3.out)
        | (go_at_call 26; refine (HG _ B3.out).out.mono ?_; rintro e w4 ⟨rfl, rfl⟩))
      clear x0 x1 x2 x3 HL HC HP HG X1 X2 b1 b2 b3 z1
      first | clear h1 | skip
      go_loopw [3, 45] (fun z i wr => ∃ (k : Nat) (b : Bool), k ≤ ks.length ∧ z = .bool b ∧ i = .int .i64 k ∧ Hid (Below w3.heap.size w3 wr) ∧ Hid (b = (true && (ks.take k).all fun m => checkT m == 0))) (fun _ i _ => ks.length - (intOf i).toNat)
      case atStart => exact ⟨0, true, Nat.zero_le _, rfl, rfl, hd (Below.refl _ _), hd (by simp)⟩
      case round =>
        obtain ⟨k, b, hk, rfl, rfl, HR, HA⟩ := hrel
        have hbr := B3.out.trans (HR.out.mono B3.out.size)
        by_cases hlt : k < ks.length
        · obtain ⟨m, c, o, lf1, PA1, np1, pc1, TA1, nt1, tc1, KA1, nk1, kc1, hm, rfl, hbg, hnm, c0, c1, c2, c3⟩ := (HKS.out.below hbr).at_ hlt
          have hsz := hbr.size
          have HBR := hd hbr
          cases b
          · have HB2 := hd (show false = (true && (ks.take (k + 1)).all fun m => checkT m == 0) from (show (false && (checkT m == 0)) = _ from all_step hm HA.out rfl))
            clear HA hm hnm hbr HK
            go_wp2
            go_roundw
            case rel => exact ⟨k + 1, false, by omega, rfl, by go_num, hd (HR.out.alloc HR.out.size _), HB2⟩
            case measure => simp [intOf]; omega
          · obtain ⟨wk, hwk⟩ : ∃ wk, wk = wr.alloc (.cells #[.bool lf1, .slice PA1 np1 pc1, .slice TA1 nt1 tc1, .slice KA1 nk1 kc1] 26) := ⟨_, rfl⟩
            have hbk : Below w3.heap.size w3 wk := hwk ▸ HR.out.alloc HR.out.size _
            have hbk2 : Below wr.heap.size wr wk := hwk ▸ (Below.refl _ _).alloc (Nat.le_refl _) _
            have HN := hd (ncheck_any d' wk _ m ((((hnm.more hsz).below hbk2)).more hbk2.size))
            have HK2 := hd hbk
            obtain ⟨x, hx⟩ : ∃ x, checkT m = x := ⟨_, rfl⟩
            rw [hx] at HN
            obtain ⟨y, hy⟩ : ∃ y, (x == 0) = y := ⟨_, rfl⟩
            have HB2 := hd (show y = (true && (ks.take (k + 1)).all fun m => checkT m == 0) from (show (true && y) = _ from all_step hm HA.out (by rw [hx, hy])))
            have hy2 : (x != 0) = !y := by rw [← hy]; rfl
            subst hwk
            clear HA hm hnm hbr hx hbk hbk2 HK
            cases y
            all_goals
              go_wp2_with (first | (go_at_call 14; refine HN.out.mono ?_; rintro e w5 ⟨rfl, b5⟩))
              go_roundw
              case rel => exact ⟨k + 1, _, by omega, rfl, by go_num, hd (HK2.out.trans (b5.mono HK2.out.size)), HB2⟩
              case measure => simp [intOf]; omega
        · have HF : (C == 0) = b := by rw [HEQ.out, HA.out, List.take_of_length_le (by omega)]
          have HF2 : (C != 0) = !b := by rw [← HF]; rfl
          obtain ⟨x0, x1, x2, x3⟩ := X3.out.keep HR.out
          have HBR := hd hbr
          clear HA HEQ HKS hbr
          cases b
          all_goals
            go_wp2_with (first | (go_at_call 14; refine (HK _ HBR.out).out.mono ?_; rintro e w5 ⟨rfl, b5⟩))
            go_ret
            exact ⟨rfl, HBR.out.trans (b5.mono HBR.out.size)⟩

end Go.Proofs.Ytkbggbkcchndeaa
