/- Check: a visit that keeps what is wrong in a captured variable; the document's Check. -/
import Derived.Test.YtknkclbjocfhiaaDoorNEachs
namespace Go.Proofs.YtknkclbjocfhiaaDoor
open Go.RowKit

theorem One.below {t : TypeId} {g : Nat} {u : Value} {w w' : World} (h : One t g u w) (hb : Below w.heap.size w w') : One t g u w' := (hb.block g (lt_of_block h)).trans h
set_option maxRecDepth 4000 in
theorem Eff.of_below {g : Nat} {w w' : World} (hb : Below w.heap.size w w') (hg : g ≤ w.heap.size) : Eff g none none w w' :=
  ⟨hb.mono hg, hb.size, fun _ hp _ _ => hb.cell hp, .inl rfl⟩

set_option maxRecDepth 4000 in
theorem box_lt {w w' : World} {o : Obj} (hb : Below (w.alloc o).heap.size (w.alloc o) w') : w.heap.size < w'.heap.size := by
  have := hb.size; simp at this; omega

/-- What is wrong so far. -/
def QC (g : Nat) (z : Int) (O : Option Nat) (w : World) : Prop := O = none ∧ One 29 g (.int .i64 z) w

set_option maxRecDepth 4000 in
set_option maxHeartbeats 1000000 in
theorem lookSelf_any (g : Nat) (z : Int) (d : Nat) (w : World) (v : Value) (n : NT) (O : Option Nat) (hQ0 : QC g z O w) (hn : NodeAt d w g v n) :
    Calls Tryd.prog 37 #[v, .pointer (some ⟨g, 0, none⟩)] w (Did g (QC g) O (stepC z n) w) := by
  obtain ⟨rfl, hQ⟩ := hQ0
  obtain ⟨d', lf, ps, tx, ks, PA, pc, TA, tc, KA, kc, hd', rfl, rfl, hp, ht, hf, hks⟩ := hn.open_
  have hlt := lt_of_block hQ
  have hb1 : Below w.heap.size w (w.alloc (.cells #[.bool lf, .slice PA ps.length pc, .slice TA tx.length tc, .slice KA ks.length kc] 26)) := (Below.refl _ _).alloc (Nat.le_refl _) _
  have HC := hd (one_any lf ps tx PA TA KA pc tc ks.length kc _ hf ((hp.below (hb1.mono (by omega))).more (by simp; omega)) ((ht.below (hb1.mono (by omega))).more (by simp; omega)))
  have HQ := hd hQ
  have HB := hd hb1
  obtain ⟨E, hE⟩ : ∃ E, E = oneE lf ps tx ks.length := ⟨_, rfl⟩
  rw [← hE] at HC
  have HS := hd (show stepC z (.mk lf ps tx ks) = (E == 0, E) by rw [hE]; rfl)
  clear hks hp ht hf hn hQ hd' hE hb1
  rcases Classical.em (E = 0) with h0 | h0
  · subst h0
    go_enter Tryd.func37, Tryd.ntmps37
    go_wp2_with (first | (refine HC.out.mono ?_; rintro e w' ⟨rfl, hb⟩; have hbb := HB.out.trans (hb.mono HB.out.size); have x0 := cell_of_one (HQ.out.below hbb); have x1 := free_of_one (HQ.out.below hbb)))
    go_ret
    exact did_ret HS.out ⟨rfl, (HQ.out.below hbb).set _⟩ ((Eff.of_below hbb (by omega)).setCell _)
  · have h1 : (E == 0) = false := by simp [h0]
    have h2 : (E != 0) = true := by simp [h0]
    rw [h1] at HS
    clear h0
    go_enter Tryd.func37, Tryd.ntmps37
    go_wp2_with (first | (refine HC.out.mono ?_; rintro e w' ⟨rfl, hb⟩; have hbb := HB.out.trans (hb.mono HB.out.size); have x0 := cell_of_one (HQ.out.below hbb); have x1 := free_of_one (HQ.out.below hbb)))
    go_ret
    exact did_ret HS.out ⟨rfl, (HQ.out.below hbb).set _⟩ ((Eff.of_below hbb (by omega)).setCell _)

set_option maxRecDepth 4000 in
theorem lookVisit (g N : Nat) : Visit 37 g N stepC (QC g) (fun _ _ => True) (fun _ _ => True) :=
  ⟨enters_of Tryd.func37 (by kernel_rfl) rfl, fun _ _ _ h j hj => (by rw [h.1] at hj; cases hj), fun _ _ _ o _ h => ⟨h.1, h.2.alloc o⟩, fun _ _ _ _ _ _ _ => trivial, fun _ _ _ _ => ⟨trivial, fun _ => trivial⟩, fun d w v n s O _ hQ _ hn => lookSelf_any g s d w v n O hQ hn⟩

set_option maxRecDepth 4000 in
theorem checkT_long {n : NT} (h : 1048576 < wrap64 (sizeT n)) : checkT n = 2 := by unfold checkT; rw [if_pos h]
set_option maxRecDepth 4000 in
theorem checkT_not {n : NT} (h : ¬ 1048576 < wrap64 (sizeT n)) : checkT n = chkT n := by unfold checkT; rw [if_neg h]

set_option maxRecDepth 4000 in
set_option maxHeartbeats 1000000 in
theorem ncheck_any (d : Nat) (w : World) (v : Value) (n : NT) (hn : NodeAt d w w.heap.size v n) : Calls Tryd.prog 17 #[v] w (Still (.int .i64 (checkT n)) w) := by
  have hn0 := hn
  obtain ⟨d', lf, ps, tx, ks, PA, pc, TA, tc, KA, kc, hd', rfl, rfl, hp, ht, hf, hks⟩ := hn.open_
  obtain ⟨wb, hwb⟩ : ∃ wb, wb = w.alloc (.cells #[.bool lf, .slice PA ps.length pc, .slice TA tx.length tc, .slice KA ks.length kc] 26) := ⟨_, rfl⟩
  have hb1 : Below w.heap.size w wb := hwb ▸ (Below.refl _ _).alloc (Nat.le_refl _) _
  have HC := hd (size_any d wb _ _ ((hn0.below hb1).more hb1.size))
  obtain ⟨z, hz⟩ : ∃ z, z = wrap64 (sizeT (.mk lf ps tx ks)) := ⟨_, rfl⟩
  have hzb := wrap_in (sizeT (.mk lf ps tx ks))
  rw [← hz] at HC hzb
  obtain ⟨hz1, hz2⟩ := hzb
  have HB := hd hb1
  by_cases hlong : 1048576 < z
  · have HF := hd (checkT_long (n := .mk lf ps tx ks) (by rw [← hz]; exact hlong))
    subst hwb
    clear hz hn hn0 hp ht hf hks hd' hb1
    go_enter Tryd.func17, Tryd.ntmps17
    go_wp2_with (first | (refine HC.out.mono ?_; rintro e w' ⟨rfl, hb⟩))
    go_ret
    exact ⟨ret_int HF.out.symm, HB.out.trans (hb.mono HB.out.size)⟩
  · have HF := hd (checkT_not (n := .mk lf ps tx ks) (by rw [← hz]; exact hlong))
    have HD := fun (w' : World) (hb : Below wb.heap.size wb w') (hQ : QC w'.heap.size 0 none (w'.alloc (.cells #[.int .i64 0] 29))) =>
      hd (each_any (d := d) (v := .agg #[.bool lf, .slice PA ps.length pc, .slice TA tx.length tc, .slice KA ks.length kc]) (n := .mk lf ps tx ks) (Q := fun _ => QC w'.heap.size) (fun N _ => lookVisit w'.heap.size N) (by simp) trivial (fun _ _ _ hb => ⟨hQ.1, hQ.2.below hb⟩) (((hn0.below hb1).more hb1.size).below hb |>.more hb.size |>.below ((Below.refl _ _).alloc (Nat.le_refl _) _)))
    have e := walk_check (.mk lf ps tx ks) 0
    rw [e] at HD
    subst hwb
    clear hz hn hn0 hp ht hf hks hd' hb1 e
    go_enter Tryd.func17, Tryd.ntmps17
    go_wp2_with (first
      | (go_at_call 35; refine HC.out.mono ?_; rintro e w' ⟨rfl, hb⟩; obtain ⟨x0, x1, x2, x3⟩ := box4 hb; have HE := HD w' hb ⟨rfl, One.new _ _ _⟩; have hbs := box_lt hb; clear HD)
      | (go_at_call 36; refine HE.out.mono ?_; rintro e w'' ⟨rfl, O', ⟨_, hq⟩, ha⟩; have y0 := cell_of_one hq))
    go_ret
    exact ⟨ret_int HF.out.symm, (HB.out.trans (hb.mono HB.out.size)).trans (((Below.refl _ _).alloc (by have := HB.out.size; omega) _).trans (ha.mono (by have := HB.out.size; omega)))⟩

set_option maxRecDepth 4000 in
set_option maxHeartbeats 4000000 in
theorem rchk_any : ∀ (d : Nat) (w : World) (v : Value) (n : NT), NodeAt d w w.heap.size v n → Calls Tryd.prog 49 #[v] w (Still (.int .i64 (chkT n)) w) := by
  intro d
  induction d with
  | zero => intro w v n h; exact h.elim
  | succ d ih =>
    intro w v n hn
    obtain ⟨d', lf, ps, tx, ks, PA, pc, TA, tc, KA, kc, hd', rfl, rfl, hp, ht, hf, hks⟩ := hn.open_
    obtain rfl : d = d' := by omega
    have hb1 : Below w.heap.size w (w.alloc (.cells #[.bool lf, .slice PA ps.length pc, .slice TA tx.length tc, .slice KA ks.length kc] 26)) := (Below.refl _ _).alloc (Nat.le_refl _) _
    have HC := hd (prcheck_any PA ps pc _ hf.1 ((hp.below hb1).more hb1.size))
    have HD := fun (w' : World) (hb : Below w.heap.size w w') => hd (rcheck_any TA tx tx.length tc w' rfl (by have := hf.2.2.1; omega) ((ht.below hb).more hb.size))
    have HB := hd hb1
    have HKS := hd hks
    obtain ⟨_, _, f2, f3⟩ := hf
    clear hn hp ht hks hd' hb1
    obtain ⟨E, hE⟩ : ∃ E, E = chk ps := ⟨_, rfl⟩
    rw [← hE] at HC
    rcases Classical.em (E = 0) with h0 | h0
    · subst h0
      rcases (show (lf = true ∧ 0 < ks.length ∨ lf = false ∧ 0 < tx.length) ∨ (lf = true ∧ ¬ 0 < ks.length) ∨ (lf = false ∧ ¬ 0 < tx.length) by
        cases lf
        · rcases Nat.eq_zero_or_pos tx.length with h | h
          · exact .inr (.inr ⟨rfl, by omega⟩)
          · exact .inl (.inr ⟨rfl, h⟩)
        · rcases Nat.eq_zero_or_pos ks.length with h | h
          · exact .inr (.inl ⟨rfl, by omega⟩)
          · exact .inl (.inl ⟨rfl, h⟩)) with h1 | h1 | h1
      · have HF := hd (show chkT (.mk lf ps tx ks) = 7 by rw [chkT, oneE_leaf hE.symm h1]; rfl)
        rcases h1 with ⟨rfl, h1⟩ | ⟨rfl, h1⟩
        all_goals
          clear hE HKS HD ih
          go_enter Tryd.func49, Tryd.ntmps49
          go_wp2_with (go_at_call 70; refine HC.out.mono ?_; rintro e w' ⟨rfl, hb⟩; obtain ⟨x0, x1, x2, x3⟩ := box4 hb)
          go_ret
          exact ⟨ret_int HF.out.symm, HB.out.trans (hb.mono HB.out.size)⟩
      all_goals
        have hone : oneE lf ps tx ks.length = chkL tx := oneE_text hE.symm (by first | exact .inl ⟨h1.1, by omega⟩ | exact .inr ⟨h1.1, by omega⟩)
        obtain ⟨rfl, h2⟩ := h1
        obtain ⟨T, hT⟩ : ∃ T, T = chkL tx := ⟨_, rfl⟩
        simp only [← hT] at HD
        rcases Classical.em (T = 0) with h3 | h3
        · subst h3
          have HF := hd (show chkT (.mk _ ps tx ks) = chkK (ks.drop 0) by rw [chkT, if_neg (by rw [hone, ← hT]; decide)]; rfl)
          clear hE hone hT
          go_enter Tryd.func49, Tryd.ntmps49
          go_wp2_with (first
            | (go_at_call 70; refine HC.out.mono ?_; rintro e w' ⟨rfl, hb⟩; obtain ⟨x0, x1, x2, x3⟩ := box4 hb)
            | (go_at_call 71; refine (HD _ (HB.out.trans (hb.mono HB.out.size))).out.mono ?_; rintro e w'' ⟨rfl, rfl⟩))
          have HB2 := hd (HB.out.trans (hb.mono HB.out.size))
          clear x0 x1 x2 x3 HC HD h2
          go_loopw [42] (fun i wr => ∃ k : Nat, k ≤ ks.length ∧ i = .int .i64 k ∧ Below w.heap.size w wr ∧ Hid (chkT (.mk _ ps tx ks) = chkK (ks.drop k))) (fun i _ => ks.length - (intOf i).toNat)
          case atStart => exact ⟨0, Nat.zero_le _, rfl, HB2.out, HF⟩
          case round =>
            clear HF
            obtain ⟨k, hk, rfl, hbr, HF⟩ := hrel
            by_cases hlt : k < ks.length
            · obtain ⟨m, b, o, lf', PA', np', pc', TA', nt', tc', KA', nk', kc', hm, rfl, hbg, hnm, c0, c1, c2, c3⟩ := (HKS.out.below hbr).at_ hlt
              have hsz := hbr.size
              obtain ⟨wk, hwk⟩ : ∃ wk, wk = wr.alloc (.cells #[.bool lf', .slice PA' np' pc', .slice TA' nt' tc', .slice KA' nk' kc'] 26) := ⟨_, rfl⟩
              have hbk : Below w.heap.size w wk := hwk ▸ hbr.alloc (by omega) _
              have hbk2 : Below wr.heap.size wr wk := hwk ▸ (Below.refl _ _).alloc (Nat.le_refl _) _
              have HM := hd (ih wk _ m ((((hnm.more hsz).below hbk2)).more hbk2.size))
              have HK := hd hbk
              obtain ⟨x, hx⟩ : ∃ x, x = chkT m := ⟨_, rfl⟩
              rw [← hx] at HM
              rcases Classical.em (x = 0) with hx0 | hx0
              · subst hx0
                have HG := hd (HF.out.trans (chkK_step hm hx.symm))
                subst hwk
                clear hm hnm hbk hbk2 hx HKS HF
                go_wp2_with (first | (refine HM.out.mono ?_; rintro e w' ⟨rfl, hb'⟩))
                go_roundw
                case rel => exact ⟨k + 1, by omega, by go_num, HK.out.trans (hb'.mono HK.out.size), HG⟩
                case measure => simp [intOf]; omega
              · have HG := hd (show chkT (.mk _ ps tx ks) = x from (HF.out.trans (chkK_stop hm (by rw [← hx]; exact hx0))).trans hx.symm)
                have z1 : (x == 0) = false := by simp [hx0]
                have z2 : (x != 0) = true := by simp [hx0]
                subst hwk
                clear hm hnm hbk hbk2 hx HKS HF hx0
                go_wp2_with (first | (refine HM.out.mono ?_; rintro e w' ⟨rfl, hb'⟩))
                go_ret
                exact ⟨ret_int HG.out.symm, HK.out.trans (hb'.mono HK.out.size)⟩
            · have HG := hd (HF.out.trans (chkK_end (by omega)))
              clear HF
              go_wp2
              go_ret
              exact ⟨ret_int HG.out.symm, hbr⟩
        · have HF := hd (show chkT (.mk _ ps tx ks) = T by rw [chkT, hone, ← hT, if_pos h3])
          have z1 : (T == 0) = false := by simp [h3]
          have z2 : (T != 0) = true := by simp [h3]
          clear hE HKS ih hone hT h3
          go_enter Tryd.func49, Tryd.ntmps49
          go_wp2_with (first
            | (go_at_call 70; refine HC.out.mono ?_; rintro e w' ⟨rfl, hb⟩; obtain ⟨x0, x1, x2, x3⟩ := box4 hb)
            | (go_at_call 71; refine (HD _ (HB.out.trans (hb.mono HB.out.size))).out.mono ?_; rintro e w'' ⟨rfl, rfl⟩))
          go_ret
          exact ⟨ret_int HF.out.symm, HB.out.trans (hb.mono HB.out.size)⟩
    · have HF := hd (show chkT (.mk lf ps tx ks) = E by rw [chkT, oneE_prop (by rw [← hE]; exact h0), ← hE, if_pos h0])
      have z1 : (E == 0) = false := by simp [h0]
      have z2 : (E != 0) = true := by simp [h0]
      clear hE HKS HD ih h0
      go_enter Tryd.func49, Tryd.ntmps49
      go_wp2_with (go_at_call 70; refine HC.out.mono ?_; rintro e w' ⟨rfl, hb⟩; obtain ⟨x0, x1, x2, x3⟩ := box4 hb)
      go_ret
      exact ⟨ret_int HF.out.symm, HB.out.trans (hb.mono HB.out.size)⟩

set_option maxRecDepth 4000 in
set_option maxHeartbeats 1000000 in
theorem rncheck_any (d : Nat) (w : World) (v : Value) (n : NT) (hn : NodeAt d w w.heap.size v n) : Calls Tryd.prog 26 #[v] w (Still (.int .i64 (checkT n)) w) := by
  have hn0 := hn
  obtain ⟨d', lf, ps, tx, ks, PA, pc, TA, tc, KA, kc, hd', rfl, rfl, hp, ht, hf, hks⟩ := hn.open_
  obtain ⟨wb, hwb⟩ : ∃ wb, wb = w.alloc (.cells #[.bool lf, .slice PA ps.length pc, .slice TA tx.length tc, .slice KA ks.length kc] 26) := ⟨_, rfl⟩
  have hb1 : Below w.heap.size w wb := hwb ▸ (Below.refl _ _).alloc (Nat.le_refl _) _
  have HC := hd (rsize_any d wb _ _ ((hn0.below hb1).more hb1.size))
  obtain ⟨z, hz⟩ : ∃ z, z = wrap64 (sizeT (.mk lf ps tx ks)) := ⟨_, rfl⟩
  have hzb := wrap_in (sizeT (.mk lf ps tx ks))
  rw [← hz] at HC hzb
  obtain ⟨hz1, hz2⟩ := hzb
  have HB := hd hb1
  by_cases hlong : 1048576 < z
  · have HF := hd (checkT_long (n := .mk lf ps tx ks) (by rw [← hz]; exact hlong))
    subst hwb
    clear hz hn hn0 hp ht hf hks hd' hb1
    go_enter Tryd.func26, Tryd.ntmps26
    go_wp2_with (first | (refine HC.out.mono ?_; rintro e w' ⟨rfl, hb⟩))
    go_ret
    exact ⟨ret_int HF.out.symm, HB.out.trans (hb.mono HB.out.size)⟩
  · have HF := hd (checkT_not (n := .mk lf ps tx ks) (by rw [← hz]; exact hlong))
    have HD := fun (w' : World) (hb : Below wb.heap.size wb w') => hd (rchk_any d w' _ _ (((hn0.below hb1).more hb1.size).later hb))
    subst hwb
    clear hz hn hn0 hp ht hf hks hd' hb1
    go_enter Tryd.func26, Tryd.ntmps26
    go_wp2_with (first
      | (go_at_call 48; refine HC.out.mono ?_; rintro e w' ⟨rfl, hb⟩; obtain ⟨x0, x1, x2, x3⟩ := box4 hb; have HE := HD w' hb; clear HD)
      | (go_at_call 49; refine HE.out.mono ?_; rintro e w'' ⟨rfl, hb2⟩))
    go_ret
    exact ⟨ret_int HF.out.symm, (HB.out.trans (hb.mono HB.out.size)).trans (hb2.mono (by have := hb.size; have := HB.out.size; omega))⟩

end Go.Proofs.YtknkclbjocfhiaaDoor
