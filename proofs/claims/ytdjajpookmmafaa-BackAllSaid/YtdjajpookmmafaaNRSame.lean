/- The document's Same, that calls itself. -/
import Derived.Test.YtdjajpookmmafaaNSames
namespace Go.Proofs.Ytdjajpookmmafaa
open Go.RowKit

set_option maxHeartbeats 16000000 in
theorem rnsame_any : ∀ (d d' : Nat) (w : World) (v v' : Value) (n n' : NT), NodeAt d w w.heap.size v n → NodeAt d' w w.heap.size v' n' →
      Calls Try.prog 24 #[v, v'] w (Still (.bool (eqT n n')) w) := by
  intro d
  induction d with
  | zero => intro d' w v v' n n' h; exact h.elim
  | succ d ih =>
    intro e w v v' n n' hn hn'
    obtain ⟨d1, lf, ps, tx, ks, PA, pc, TA, tc, KA, kc, hd1, rfl, rfl, hp, ht, hf, hks⟩ := hn.open_
    obtain ⟨e1, lf', ps', tx', ks', PA', pc', TA', tc', KA', kc', hd2, rfl, rfl, hp', ht', hf', hks'⟩ := hn'.open_
    obtain rfl : d = d1 := by omega
    obtain ⟨wb, hwb⟩ : ∃ wb, wb = (w.alloc (.cells #[.bool lf, .slice PA ps.length pc, .slice TA tx.length tc, .slice KA ks.length kc] 27)).alloc (.cells #[.bool lf', .slice PA' ps'.length pc', .slice TA' tx'.length tc', .slice KA' ks'.length kc'] 27) := ⟨_, rfl⟩
    have hb1 : Below w.heap.size w wb := hwb ▸ below_mono2 (Below.refl _ _) (Nat.le_refl _)
    have HC := hd (prsame_any PA PA' ps ps' pc pc' wb (by have := hf.2.1; omega) (by have := hf'.2.1; omega) ((hp.below hb1).more hb1.size) ((hp'.below hb1).more hb1.size))
    have HD := fun (r : Bool) (hr : sameL tx tx' = r) (w' : World) (hb : Below w.heap.size w w') => hd (rsame_any TA TA' tx tx' tx.length tx'.length tc tc' r hr w' rfl rfl (by have := hf.2.2.1; omega) (by have := hf'.2.2.1; omega) ((ht.below hb).more hb.size) ((ht'.below hb).more hb.size))
    have HB := hd hb1
    have HKS := hd hks
    have HKS' := hd hks'
    have hl3 := hf.2.2.2.1
    have hl3' := hf'.2.2.2.1
    subst hwb
    clear hn hn' hp ht hf hks hp' ht' hf' hks' hb1 hd1 hd2
    rcases Classical.em (lf = lf') with h1 | h1
    · subst h1
      rcases Classical.em (ps = ps') with h2 | h2
      · subst h2
        rw [decide_eq_true rfl] at HC
        rcases Classical.em (tx = tx') with h3 | h3
        · subst h3
          have HD := HD true (sameL_self _)
          rcases Classical.em (ks.length = ks'.length) with h4 | h4
          · have HNK := hd h4
            have z1 : ((ks.length : Int) == (ks'.length : Int)) = true := by simp; omega
            have z2 : ((ks.length : Int) != (ks'.length : Int)) = false := by simp; omega
            have HS := hd (show sameO lf ps tx ks.length lf ps tx ks'.length = true from decide_eq_true ⟨rfl, h4, rfl, rfl⟩)
            clear h4
            cases lf <;>
            · go_enter Try.func24, Try.ntmps24
              go_wp2_with (first
                | (go_at_call 32; refine HC.out.mono ?_; rintro e w' ⟨rfl, hb⟩; obtain ⟨⟨x0, x1, x2, x3⟩, ⟨y0, y1, y2, y3⟩, hlt⟩ := box8 hb)
                | (go_at_call 33; refine (HD _ (HB.out.trans (hb.mono HB.out.size))).out.mono ?_; rintro e w'' ⟨rfl, kd, rfl⟩))
              have HW := hd (HB.out.trans (hb.mono HB.out.size))
              have X3 := hd x3
              have Y3 := hd y3
              clear x0 x1 x2 x3 y0 y1 y2 y3 hb HC HB HD z1 z2
              go_loopw [39] (fun i wr => ∃ k : Nat, k ≤ ks.length ∧ i = .int .i64 k ∧ Hid (Below w'.heap.size w' wr) ∧ Hid (∀ j, j < k → ks[j]? = ks'[j]?)) (fun i _ => ks.length - (intOf i).toNat)
              case atStart => exact ⟨0, Nat.zero_le _, rfl, below_drewN (Below.refl _ _) _, fun j hj => absurd hj (Nat.not_lt_zero _)⟩
              case round =>
                obtain ⟨k, hk, rfl, HR, HA⟩ := hrel
                by_cases hlt2 : k < ks.length
                · have hlt3 : k < ks'.length := by have := HNK.out; omega
                  have hbr := HW.out.trans (HR.out.mono HW.out.size)
                  obtain ⟨m, b, o, lf1, PA1, np1, pc1, TA1, nt1, tc1, KA1, nk1, kc1, hm, rfl, hbg, hnm, c0, c1, c2, c3⟩ := (HKS.out.below hbr).at_ hlt2
                  obtain ⟨m', b', o', lf2, PA2, np2, pc2, TA2, nt2, tc2, KA2, nk2, kc2, hm', rfl, hbg', hnm', c0', c1', c2', c3'⟩ := (HKS'.out.below hbr).at_ hlt3
                  have l0 := later_cell c0
                  have l1 := later_cell c1
                  have l2 := later_cell c2
                  have l3 := later_cell c3
                  have l0' := later_cell c0'
                  have l1' := later_cell c1'
                  have l2' := later_cell c2'
                  have l3' := later_cell c3'
                  have lx := later_cell ((HR.out.cell (p := ⟨w.heap.size, 3, none⟩) (by show w.heap.size < _; omega)).trans X3.out)
                  have ly := later_cell ((HR.out.cell (p := ⟨w.heap.size + 1, 3, none⟩) (by show w.heap.size + 1 < _; omega)).trans Y3.out)
                  have HC := fun (u : Later wr.heap.size wr) => hd (ih e1 u.1 _ _ m m' (((hnm.below (u.2.mono hbr.size))).more (Nat.le_trans hbr.size u.2.size)) (((hnm'.below (u.2.mono hbr.size))).more (Nat.le_trans hbr.size u.2.size)))
                  obtain ⟨E, hE⟩ : ∃ E, E = eqT m m' := ⟨_, rfl⟩
                  rw [← hE] at HC
                  have HE := hd hE.symm
                  have HM := hd hm
                  have HM' := hd hm'
                  have HBR := hd hbr
                  clear hE hm hm' hnm hnm' c0 c1 c2 c3 c0' c1' c2' c3' hbr HKS HKS' ih
                  cases E
                  · have HF := fun (a b : Bool) => hd (eqT_kid (lf := a) (lf' := b) (ps := ps) (tx := tx) (ps' := ps) (tx' := tx) HM.out HM'.out HE.out)
                    clear HA
                    go_wp2_with fail
                    refine wp_region_later wr.heap.size (by kernel_rfl) (by kernel_rfl) ?_
                    repeat (go_big_quiet_step (exact later_in (Nat.le_refl _) (HC _).out))
                    refine wpQuiet_nil ?_
                    intro _ hu
                    obtain ⟨⟨w2, hw2⟩, rfl⟩ := hu
                    clear l0 l1 l2 l3 l0' l1' l2' l3' lx ly HC
                    go_wp2
                    go_ret
                    exact ⟨ret_bool (HF _ _).out.symm, HBR.out.trans (hw2.mono HBR.out.size)⟩
                  · have HB2 := one_more (p := fun j => ks[j]? = ks'[j]?) HA (by rw [HM.out, HM'.out, eqT_true HE.out])
                    clear HA
                    go_wp2_with fail
                    refine wp_region_later wr.heap.size (by kernel_rfl) (by kernel_rfl) ?_
                    repeat (go_big_quiet_step (exact later_in (Nat.le_refl _) (HC _).out))
                    refine wpQuiet_nil ?_
                    intro _ hu
                    obtain ⟨⟨w2, hw2⟩, rfl⟩ := hu
                    clear l0 l1 l2 l3 l0' l1' l2' l3' lx ly HC
                    go_wp2
                    go_roundw
                    case rel => exact ⟨k + 1, by omega, by go_num, hd (HR.out.trans (hw2.mono HR.out.size)), HB2⟩
                    case measure => simp [intOf]; omega
                · have HF := hd (eqT_all HS.out (fun j hj => HA.out j (by omega)))
                  clear HA
                  go_wp2
                  go_ret
                  exact ⟨ret_bool HF.out.symm, HW.out.trans (HR.out.mono HW.out.size)⟩
          · have HF := hd (eqT_one (ks := ks) (ks' := ks') (sameO_no (lf := lf) (ps := ps) (tx := tx) (lf' := lf) (ps' := ps) (tx' := tx) (fun h => h4 h.2.1)))
            have z1 : ((ks.length : Int) == (ks'.length : Int)) = false := by simp; omega
            have z2 : ((ks.length : Int) != (ks'.length : Int)) = true := by simp; omega
            clear h4 ih HKS HKS'
            cases lf <;>
            · go_enter Try.func24, Try.ntmps24
              go_wp2_with (first
                | (go_at_call 32; refine HC.out.mono ?_; rintro e w' ⟨rfl, hb⟩; obtain ⟨⟨x0, x1, x2, x3⟩, ⟨y0, y1, y2, y3⟩, hlt⟩ := box8 hb)
                | (go_at_call 33; refine (HD _ (HB.out.trans (hb.mono HB.out.size))).out.mono ?_; rintro e w'' ⟨rfl, kd, rfl⟩))
              go_ret
              exact ⟨ret_bool HF.out.symm, below_drewN (HB.out.trans (hb.mono HB.out.size)) _⟩
        · have HD := HD false (by unfold sameL; exact decide_eq_false h3)
          have HF := hd (eqT_one (ks := ks) (ks' := ks') (sameO_no (lf := lf) (ps := ps) (tx := tx) (lf' := lf) (ps' := ps) (tx' := tx') (fun h => h3 h.2.2.2)))
          clear h3 ih HKS HKS'
          cases lf <;>
          · go_enter Try.func24, Try.ntmps24
            go_wp2_with (first
              | (go_at_call 32; refine HC.out.mono ?_; rintro e w' ⟨rfl, hb⟩; obtain ⟨⟨x0, x1, x2, x3⟩, ⟨y0, y1, y2, y3⟩, hlt⟩ := box8 hb)
              | (go_at_call 33; refine (HD _ (HB.out.trans (hb.mono HB.out.size))).out.mono ?_; rintro e w'' ⟨rfl, kd, rfl⟩))
            go_ret
            exact ⟨ret_bool HF.out.symm, below_drewN (HB.out.trans (hb.mono HB.out.size)) _⟩
      · rw [decide_eq_false h2] at HC
        have HF := hd (eqT_one (ks := ks) (ks' := ks') (sameO_no (lf := lf) (ps := ps) (tx := tx) (lf' := lf) (ps' := ps') (tx' := tx') (fun h => h2 h.2.2.1)))
        clear h2 ih HKS HKS' HD
        cases lf <;>
        · go_enter Try.func24, Try.ntmps24
          go_wp2_with (first
            | (go_at_call 32; refine HC.out.mono ?_; rintro e w' ⟨rfl, hb⟩; obtain ⟨⟨x0, x1, x2, x3⟩, ⟨y0, y1, y2, y3⟩, hlt⟩ := box8 hb))
          go_ret
          exact ⟨ret_bool HF.out.symm, HB.out.trans (hb.mono HB.out.size)⟩
    · have HF := hd (eqT_one (ks := ks) (ks' := ks') (sameO_no (lf := lf) (ps := ps) (tx := tx) (lf' := lf') (ps' := ps') (tx' := tx') (fun h => h1 h.1)))
      clear ih HKS HKS' HD HC
      cases lf <;> cases lf' <;> first
      | exact absurd rfl h1
      | (go_enter Try.func24, Try.ntmps24
         go_wp2
         go_ret
         exact ⟨ret_bool HF.out.symm, HB.out⟩)

end Go.Proofs.Ytdjajpookmmafaa
