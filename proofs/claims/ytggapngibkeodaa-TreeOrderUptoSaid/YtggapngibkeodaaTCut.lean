/- Cut: the closure, and the call. -/
import Derived.Test.YtggapngibkeodaaTAdd
namespace Go.Proofs.Ytggapngibkeodaa
open Go.RowKit

/-- A node's variable that stands empty or not. -/
def SomeAt (g : Nat) (w : World) : Prop := ∃ u0 u1 u2 u3, w.heap[g]? = some (.cells #[u0, u1, u2, u3] 26 (0, 0))

set_option maxRecDepth 100000 in
set_option maxHeartbeats 8000000 in
theorem cutSelf_any (ib g : Nat) (i : Int) (d : Nat) (w : World) (v : Value) (n : NT) (hn : NodeAt d w g v n) (hg : g < w.heap.size) (hG : SomeAt g w) (hI : NumAt ib i w) (hig : ib ≠ g) :
    Calls Try.prog 44 #[v, .pointer (some ⟨ib, 0, none⟩), .pointer (some ⟨g, 0, none⟩)] w (NewO g (cutF i n) (kidT n i) w) := by
  obtain ⟨d', lf, ps, tx, ks, PA, pc, TA, tc, KA, kc, hd', hn', rfl, hps, htx, hf, hks⟩ := hn.open_
  obtain ⟨z0, z1, z2, z3, hG⟩ := hG
  obtain ⟨wb, hwb⟩ : ∃ wb, wb = (w.alloc (.cells #[.bool lf, .slice PA ps.length pc, .slice TA tx.length tc, .slice KA ks.length kc] 26)).alloc (.cells #[.bool false, .slice none 0 0, .slice none 0 0, .slice none 0 0] 26) := ⟨_, rfl⟩
  have hb0 : Below w.heap.size w wb := hwb ▸ below_mono2 (Below.refl _ _) (Nat.le_refl _)
  have hsb : wb.heap.size = w.heap.size + 2 := by rw [hwb]; simp
  have htb : wb.heap[w.heap.size]? = some (.cells #[.bool lf, .slice PA ps.length pc, .slice TA tx.length tc, .slice KA ks.length kc] 26 (0, 0)) ∧ wb.heap[w.heap.size + 1]? = some (.cells #[.bool false, .slice none 0 0, .slice none 0 0, .slice none 0 0] 26 (0, 0)) := hwb ▸ two_boxes w _ _ _ _ _ _ _ _ _ _
  have hib : wb.cell? ⟨ib, 0, none⟩ = some (.int .i64 i) := num_cell (keepBlk hI hb0)
  have hibl := lt_of_block hI
  obtain ⟨x0, x1, x2, x3, _, _, _, _⟩ := blkCells htb.1
  have hl3 := hf.2.2.2.1
  have HB := hd hb0
  have HS := hd hsb
  have HTB := hd htb
  have HN := hd hn
  have HN' := hd hn'
  have HIB := hd (show NumAt ib i wb from keepBlk hI hb0)
  have HGB := hd (keepBlk hG hb0)
  have HKS := hd hks
  obtain ⟨hb, hhb⟩ : ∃ hb, hasB n i = hb := ⟨_, rfl⟩
  have HK := hd (haskid_any n i hb hhb d wb _ ((hn.below (hb0.mono (by omega))).more (by omega)))
  have HHB := hd hhb
  clear hn hb0 hsb htb hps htx hf hks hd' hn' hI hG hhb
  have hS := HS.out
  cases hb
  · have HF := hd (show cutF i n = (zeroT, 5) by unfold cutF; rw [HHB.out]; rfl)
    have HE := hd (kid_none HHB.out)
    go_enter Try.func44, Try.ntmps44
    subst hwb
    go_wp2_with (first | (go_at_call 37; refine HK.out.mono ?_; rintro e w2 ⟨rfl, b2⟩; have hz2 := b2.size; have HB2 := hd b2; have HR2 := hd (keepBlk HTB.out.2 b2); obtain ⟨r0, r1, r2, r3, r4, r5, r6, r7⟩ := blkCells HR2.out; clear b2))
    have h7 := set4_block (a := .bool false) (b := .slice none 0 0) (c := .slice none 0 0) (d := .slice none 0 0) HR2.out
    obtain ⟨t0, t1, t2, t3, _, _, _, _⟩ := blkCells h7
    rw [hS] at hz2
    have hW : Below w.heap.size w w2 := HB.out.trans (HB2.out.mono (by omega))
    refine bodyPost_ret (v := .tuple #[.agg #[.bool false, .slice none 0 0, .slice none 0 0, .slice none 0 0], .int .i64 5]) (by simp [results, Try.results44, go_sem, t0, t1, t2, t3]) rfl (newO_ret HF.out (zero_tree _ 0 _) ((Off.of_below hW).set4 (.inl (by omega))) ?_)
    rw [HE.out]
    exact (set4_other (by omega)).trans (hW.block g hg)
  · obtain ⟨kid, hkid⟩ := kid_some HHB.out
    obtain ⟨hk1, hk2, hk3⟩ := kid_has hkid
    have HF := hd (show cutF i n = (splT n i.toNat 1 [], 0) by unfold cutF; rw [HHB.out]; rfl)
    have HE := hd hkid
    obtain ⟨j, hj⟩ : ∃ j : Nat, i = (j : Int) := ⟨i.toNat, by omega⟩
    subst hj
    have hj1 : j < ks.length := by have := hk2; rw [HN'.out] at this; simp only [NT.ks] at this; omega
    obtain ⟨m2, b', o', lf2, PA2, np2, pc2, TA2, nt2, tc2, KA2, nk2, kc2, hm2, rfl, hbg2, hnm2, c0, c1, c2, c3⟩ := (HKS.out.below (HB.out.mono (by omega))).at_ hj1
    have hmk : m2 = kid := by have := hk3; rw [HN'.out] at this; simp only [NT.ks, Int.toNat_natCast] at this; rw [hm2] at this; injection this
    subst hmk
    have HN2 := hd hnm2
    clear hkid hk1 hk2 hk3 hm2 hnm2
    go_enter Try.func44, Try.ntmps44
    subst hwb
    go_wp2_with (first
      | (go_at_call 37; refine HK.out.mono ?_; rintro e w2 ⟨rfl, b2⟩; have hz2 := b2.size; rw [hS] at hz2; have HB2 := hd b2; have HR2 := hd (keepBlk HTB.out.2 b2); have HG2 := hd (keepBlk HGB.out b2); have HI2 := hd (keepBlk HIB.out b2); have HV2 := hd (keepBlk HTB.out.1 b2); clear x0 x1 x2 x3; obtain ⟨x0, x1, x2, x3, _, _, _, _⟩ := blkCells HV2.out; clear hib; have hib := num_cell HI2.out; have e0 := (b2.cell (cell_in c0)).trans c0; have e1 := (b2.cell (cell_in c1)).trans c1; have e2 := (b2.cell (cell_in c2)).trans c2; have e3 := (b2.cell (cell_in c3)).trans c3; clear c0 c1 c2 c3; have hn2 := HN2.out.below (b2.mono (by omega)); have HN2' := hd (show NodeAt d' w2 w2.heap.size _ m2 from hn2.more (by omega)); clear b2 hn2)
      | (go_at_call 38; refine Calls.mono (copy_any d' w2 _ m2 HN2'.out) ?_; intro e w3 h3; obtain ⟨v3, rfl, ht3, hb3⟩ := h3; obtain ⟨lf4, PA4, np4, pc4, TA4, nt4, tc4, KA4, nk4, kc4, rfl⟩ := (ht3.at_ (B := w3.heap.size) (fun b hb => hb.2)).val; have HB3 := hd hb3; have HT3 := hd ht3; have hz3 := hb3.size; have HR3 := hd (keepBlk HR2.out hb3); have HG3 := hd (keepBlk HG2.out hb3); have HI3 := hd (keepBlk HI2.out hb3); have HV3 := hd (keepBlk HV2.out hb3); obtain ⟨g0, g1, g2, g3, g4, g5, g6, g7⟩ := blkCells HG3.out; clear x0 x1 x2 x3 hib e0 e1 e2 e3; obtain ⟨x0, x1, x2, x3, _, _, _, _⟩ := blkCells HV3.out; have hib := num_cell HI3.out; have hn3 := (HN.out.below (HB.out.mono (by omega))).below ((HB2.out.mono (by omega)).trans (HB3.out.mono (by omega))); have hz4 : ((((w3.setCell ⟨g, 0, none⟩ (.bool lf4)).setCell ⟨g, 1, none⟩ (.slice PA4 np4 pc4)).setCell ⟨g, 2, none⟩ (.slice TA4 nt4 tc4)).setCell ⟨g, 3, none⟩ (.slice KA4 nk4 kc4)).heap.size = w3.heap.size := set4_size; have hn4 : NodeAt d ((((w3.setCell ⟨g, 0, none⟩ (.bool lf4)).setCell ⟨g, 1, none⟩ (.slice PA4 np4 pc4)).setCell ⟨g, 2, none⟩ (.slice TA4 nt4 tc4)).setCell ⟨g, 3, none⟩ (.slice KA4 nk4 kc4)) ((((w3.setCell ⟨g, 0, none⟩ (.bool lf4)).setCell ⟨g, 1, none⟩ (.slice PA4 np4 pc4)).setCell ⟨g, 2, none⟩ (.slice TA4 nt4 tc4)).setCell ⟨g, 3, none⟩ (.slice KA4 nk4 kc4)).heap.size _ n := (hn3.below (Below.set4 (Below.refl _ _) (Nat.le_refl g))).more (by rw [hz4]; omega); have HSP := hd (splice_any (fun _ => False) d _ (fun _ h => h.elim) _ n j 1 0 0 (j : Int) 1 rfl rfl none [] [] hn4 (Others.nil _ _ _ _) rfl (by rw [HN'.out]; exact hj1) (by have := hl3; rw [HN'.out]; show ks.length + 0 ≤ _; omega)); have HZ4 := hd hz4; clear ht3 hb3 hn3 hn4 hz4)
      | (go_at_call 42; refine HSP.out.mono ?_; intro e w9 h9; obtain ⟨v9, rfl, ht9, hb9⟩ := h9; obtain ⟨lf9, PA9, np9, pc9, TA9, nt9, tc9, KA9, nk9, kc9, rfl⟩ := (ht9.at_ (B := w9.heap.size) (fun b hb => hb.2)).val; have hz9 := hb9.size; rw [HZ4.out] at hz9; have HR9 := hd (show w9.heap[w.heap.size + 1]? = some (.cells #[.bool false, .slice none 0 0, .slice none 0 0, .slice none 0 0] 26 (0, 0)) from (hb9.block _ (by rw [HZ4.out]; omega)).trans ((set4_other (by omega)).trans HR3.out)); obtain ⟨q0, q1, q2, q3, q4, q5, q6, q7⟩ := blkCells HR9.out; have HT9 := hd ht9; have HB9 := hd hb9; clear ht9 hb9))
    have h7 := set4_block (a := .bool lf9) (b := .slice PA9 np9 pc9) (c := .slice TA9 nt9 tc9) (d := .slice KA9 nk9 kc9) HR9.out
    obtain ⟨t0, t1, t2, t3, _, _, _, _⟩ := blkCells h7
    have hz4 := HZ4.out
    have hW3 : Below w.heap.size w w3 := HB.out.trans ((HB2.out.mono (by omega)).trans (HB3.out.mono (by omega)))
    have hO : Off g w w9 := ((Off.of_below hW3).set4 (.inr rfl)).trans (Off.of_below HB9.out)
    refine bodyPost_ret (v := .tuple #[.agg #[.bool lf9, .slice PA9 np9 pc9, .slice TA9 nt9 tc9, .slice KA9 nk9 kc9], .int .i64 0]) (by simp [results, Try.results44, go_sem, t0, t1, t2, t3]) rfl (newO_ret HF.out (HT9.out.keep (fun b hb => ?_) (fun p hp => ?_)) (hO.set4 (.inl (by omega))) ?_)
    · rw [set4_size]
      rcases hb.1 with h | h
      · exact h.elim
      · rw [hz4] at h; exact ⟨by omega, hb.2⟩
    · have hne : p.block ≠ w.heap.size + 1 := by
        rcases hp.1 with h | h
        · exact h.elim
        · rw [hz4] at h; omega
      exact ⟨World.cell?_of_block (set4_other hne), World.frozen?_of_block (set4_other hne)⟩
    · rw [HE.out]
      refine ⟨.bool lf4, .slice PA4 np4 pc4, .slice TA4 nt4 tc4, .slice KA4 nk4 kc4, d', ?_, HT3.out.block_keep (fun b h1 h2 => by rw [set4_size]; omega) (fun b h1 h2 => (set4_other (by omega)).trans ((HB9.out.block b (by rw [hz4]; omega)).trans (set4_other (by omega))))⟩
      exact (set4_other (by omega)).trans ((HB9.out.block g (by rw [hz4]; omega)).trans (set4_block HG3.out))

theorem cutMake (ib g : Nat) (i : Int) (hig : ib ≠ g) : Remake2 44 (.pointer (some ⟨ib, 0, none⟩)) (.pointer (some ⟨g, 0, none⟩)) g (cutF i) (fun n => kidT n i) (fun w => SomeAt g w ∧ NumAt ib i w) (fun _ => True) :=
  ⟨enters_of Try.func44 (by kernel_rfl) rfl, fun w w' h hb => ⟨(by obtain ⟨u0, u1, u2, u3, e⟩ := h.1; exact ⟨u0, u1, u2, u3, keepBlk e hb⟩), keepBlk h.2 hb⟩, fun d w v n hn hg hC _ => cutSelf_any ib g i d w v n hn hg hC.1 hC.2 hig⟩

/-- Two new trees, and an error's number. -/
def NewC (r1 r2 : NT) (er : Int) (w : World) (e : Ending) (w' : World) : Prop :=
  ∃ v1 v2 d, e = .returned (.tuple #[v1, v2, .int .i64 er]) ∧ TreeP (fun b => w.heap.size ≤ b ∧ b < w'.heap.size) d w' v1 r1 ∧ TreeP (fun b => w.heap.size ≤ b ∧ b < w'.heap.size) d w' v2 r2 ∧ Below w.heap.size w w'
theorem newC_ret {r1 r2 : NT} {er : Int} {w w' : World} {v1 v2 : Value} {d1 d2 : Nat} (h1 : TreeP (fun b => w.heap.size ≤ b ∧ b < w'.heap.size) d1 w' v1 r1) (h2 : TreeP (fun b => w.heap.size ≤ b ∧ b < w'.heap.size) d2 w' v2 r2) (hb : Below w.heap.size w w') : NewC r1 r2 er w (.returned (.tuple #[v1, v2, .int .i64 er])) w' :=
  ⟨v1, v2, max d1 d2, rfl, h1.deep (Nat.le_max_left _ _), h2.deep (Nat.le_max_right _ _), hb⟩

theorem TreeP.set4' {lo hi g dd : Nat} {w : World} {v : Value} {n : NT} {a b c d : Value} (h : TreeP (fun b => lo ≤ b ∧ b < hi) dd w v n) (hg : g < lo) : TreeP (fun b => lo ≤ b ∧ b < hi) dd ((((w.setCell ⟨g, 0, none⟩ a).setCell ⟨g, 1, none⟩ b).setCell ⟨g, 2, none⟩ c).setCell ⟨g, 3, none⟩ d) v n :=
  h.block_keep (fun _ h1 h2 => ⟨h1, h2⟩) (fun _ h1 _ => set4_other (by omega))
theorem TreeP.drew' {P : Nat → Prop} {d : Nat} {w : World} {v : Value} {n : NT} (h : TreeP P d w v n) : TreeP P d w.drew v n := TreeP.keep (w := w) (w' := w.drew) (fun _ h => h) (fun _ _ => ⟨rfl, rfl⟩) h
theorem TreeP.widen {lo hi d : Nat} {w w0 : World} {v : Value} {n : NT} (h : TreeP (fun b => lo ≤ b ∧ b < hi) d w v n) (hl : w0.heap.size ≤ lo) (hh : hi ≤ w.heap.size) : TreeP (fun b => w0.heap.size ≤ b ∧ b < w.heap.size) d w v n :=
  h.keep (fun _ hb => ⟨Nat.le_trans hl hb.1, Nat.lt_of_lt_of_le hb.2 hh⟩) (fun _ _ => ⟨rfl, rfl⟩)
theorem cut_out {w w2 W7 : World} {lo g1 g2 : Nat} {F1 M : NT} {F2 : Int} {d2 d5 : Nat} {v4 v5 a b c d a' b' c' d' : Value} (h1 : w.heap.size ≤ g1) (h2 : w.heap.size ≤ g2) (hl1 : g1 < lo) (hl2 : g2 < lo) (hs : W7.heap.size = w2.heap.size) (hk : ∀ q, lo ≤ q → q < w2.heap.size → W7.heap[q]? = w2.heap[q]?)
    (hT2 : TreeP (fun b => lo ≤ b ∧ b < w2.heap.size) d2 w2 v4 F1) (hT5 : TreeP (fun b => lo ≤ b ∧ b < w2.heap.size) d5 w2 v5 M) (hW : Below w.heap.size w W7) :
    NewC F1 M F2 w (.returned (.tuple #[v4, v5, .int .i64 F2])) (((((((((W7.setCell ⟨g1, 0, none⟩ a).setCell ⟨g1, 1, none⟩ b).setCell ⟨g1, 2, none⟩ c).setCell ⟨g1, 3, none⟩ d).setCell ⟨g2, 0, none⟩ a').setCell ⟨g2, 1, none⟩ b').setCell ⟨g2, 2, none⟩ c').setCell ⟨g2, 3, none⟩ d').drew) := by
  obtain ⟨W8, hW8⟩ : ∃ W8, W8 = ((((W7.setCell ⟨g1, 0, none⟩ a).setCell ⟨g1, 1, none⟩ b).setCell ⟨g1, 2, none⟩ c).setCell ⟨g1, 3, none⟩ d) := ⟨_, rfl⟩
  obtain ⟨W9, hW9⟩ : ∃ W9, W9 = ((((W8.setCell ⟨g2, 0, none⟩ a').setCell ⟨g2, 1, none⟩ b').setCell ⟨g2, 2, none⟩ c').setCell ⟨g2, 3, none⟩ d') := ⟨_, rfl⟩
  rw [← hW8, ← hW9]
  have s8 : W8.heap.size = w2.heap.size := by rw [hW8, set4_size, hs]
  have s9 : W9.heap.size = w2.heap.size := by rw [hW9, set4_size, s8]
  have k9 : ∀ q, lo ≤ q → q < w2.heap.size → W9.heap[q]? = w2.heap[q]? := fun q q1 q2 => by
    rw [hW9, set4_other (by omega), hW8, set4_other (by omega)]; exact hk q q1 q2
  have b8 : Below w.heap.size w W8 := hW8 ▸ Below.set4 hW h1
  have b9 : Below w.heap.size w W9 := hW9 ▸ Below.set4 b8 h2
  have t : ∀ {dd : Nat} {v : Value} {n : NT}, TreeP (fun b => lo ≤ b ∧ b < w2.heap.size) dd w2 v n → TreeP (fun b => w.heap.size ≤ b ∧ b < W9.drew.heap.size) dd W9.drew v n := fun {dd v n} h =>
    (h.block_keep (w' := W9) (Q := fun b => w.heap.size ≤ b ∧ b < W9.drew.heap.size) (fun b q1 q2 => ⟨by omega, by show b < W9.heap.size; omega⟩) k9).drew'
  exact newC_ret (t hT2) (t hT5) b9.drew
theorem left_val {g : Nat} {s : Option NT} {w w' : World} (h : LeftAt g s w w') (hz : w.heap[g]? = some (.cells #[.bool false, .slice none 0 0, .slice none 0 0, .slice none 0 0] 26 (0, 0))) :
    ∃ lf PA np pc TA nt tc KA nk kc d, w'.heap[g]? = some (.cells #[.bool lf, .slice PA np pc, .slice TA nt tc, .slice KA nk kc] 26 (0, 0)) ∧ TreeP (fun b => w.heap.size ≤ b ∧ b < w'.heap.size) d w' (.agg #[.bool lf, .slice PA np pc, .slice TA nt tc, .slice KA nk kc]) (s.getD zeroT) := by
  cases s with
  | none => exact ⟨_, _, _, _, _, _, _, _, _, _, 1, Eq.trans h hz, zero_tree _ 0 _⟩
  | some t =>
    obtain ⟨u0, u1, u2, u3, d, h1, h2⟩ := h
    obtain ⟨lf, PA, np, pc, TA, nt, tc, KA, nk, kc, e⟩ := (h2.at_ (B := w'.heap.size) (fun b hb => hb.2)).val
    simp only [Value.agg.injEq, Array.mk.injEq, List.cons.injEq, and_true] at e
    obtain ⟨rfl, rfl, rfl, rfl⟩ := e
    exact ⟨_, _, _, _, _, _, _, _, _, _, d, h1, h2⟩

set_option maxRecDepth 100000 in
set_option maxHeartbeats 8000000 in
theorem tcut_any (d : Nat) (w : World) (v : Value) (n : NT) (A : Option Addr) (p : List Int) (lp c : Nat) (hlp : p.length = lp) (hl : lp ≤ 1000) (hc : lp ≤ c) (hn : NodeAt d w w.heap.size v n) (hp : IL w w.heap.size A p) :
    Calls Try.prog 18 #[v, .slice A lp c] w (NewC (cutE n p).1 (cutM n p) (cutE n p).2 w) := by
  obtain ⟨lf, PA, np, pc, TA, nt, tc, KA, nk, kc, rfl⟩ := hn.val
  obtain ⟨wb, hwb⟩ : ∃ wb, wb = ((w.alloc (.cells #[.bool lf, .slice PA np pc, .slice TA nt tc, .slice KA nk kc] 26)).alloc (.cells #[.bool false, .slice none 0 0, .slice none 0 0, .slice none 0 0] 26)).alloc (.cells #[.bool false, .slice none 0 0, .slice none 0 0, .slice none 0 0] 26) := ⟨_, rfl⟩
  have hb0 : Below w.heap.size w wb := hwb ▸ (below_mono2 (Below.refl _ _) (Nat.le_refl _)).alloc (by simp; omega) _
  have hsb : wb.heap.size = w.heap.size + 3 := by rw [hwb]; simp
  have hnb : wb.heap[w.heap.size]? = some (.cells #[.bool lf, .slice PA np pc, .slice TA nt tc, .slice KA nk kc] 26 (0, 0)) := by
    rw [hwb, Below.heap_alloc _ _ _ (by simp; omega)]; exact (two_boxes w _ _ _ _ _ _ _ _ _ _).1
  have hmb : wb.heap[w.heap.size + 1]? = some (.cells #[.bool false, .slice none 0 0, .slice none 0 0, .slice none 0 0] 26 (0, 0)) := by
    rw [hwb, Below.heap_alloc _ _ _ (by simp)]; exact (two_boxes w _ _ _ _ _ _ _ _ _ _).2
  have hrb : wb.heap[w.heap.size + 2]? = some (.cells #[.bool false, .slice none 0 0, .slice none 0 0, .slice none 0 0] 26 (0, 0)) := by
    rw [hwb]
    have e : ∀ (A B : Obj), w.heap.size + 2 = ((w.alloc A).alloc B).heap.size := fun A B => by simp
    rw [e]; exact heap_alloc_new _ _
  have HPR := hd (parent_any A p lp c wb hlp hl hc ((hp.below hb0).more (by omega)))
  have HB := hd hb0
  have HS := hd hsb
  have HRB := hd hrb
  have HMB := hd hmb
  have HNB := hd hnb
  rcases lp with _ | k
  · have HF := hd (show (cutE n p).1 = zeroT ∧ cutM n p = zeroT ∧ (cutE n p).2 = 6 by unfold cutE cutM; rw [if_pos hlp, if_pos hlp]; exact ⟨rfl, rfl, rfl⟩)
    rw [parent_nil hlp] at HPR
    clear hn hp hb0 hsb hmb hrb hnb hlp
    go_enter Try.func18, Try.ntmps18
    subst hwb
    go_wp2_with (first | (go_at_call 33; refine HPR.out.mono ?_; intro e w1 h1; obtain ⟨v1, rfl, ho1, hb1⟩ := h1; have HR1 := hd (keepBlk HRB.out hb1); have HM1 := hd (keepBlk HMB.out hb1); obtain ⟨r0, r1, r2, r3, r4, r5, r6, r7⟩ := blkCells HR1.out; obtain ⟨m0, m1, m2, m3, m4, m5, m6, m7⟩ := blkCells HM1.out; have HB1 := hd hb1; have hz1 := hb1.size; rw [HS.out] at hz1; clear ho1 hb1))
    have h7 := set4_block (a := .bool false) (b := .slice none 0 0) (c := .slice none 0 0) (d := .slice none 0 0) HM1.out
    have h8 := (set4_other (w := w1) (g := w.heap.size + 1) (k := w.heap.size + 2) (a := .bool false) (b := .slice none 0 0) (c := .slice none 0 0) (d := .slice none 0 0) (by omega)).trans HR1.out
    have h9 := set4_block (a := .bool false) (b := .slice none 0 0) (c := .slice none 0 0) (d := .slice none 0 0) h8
    have h10 := (set4_other (g := w.heap.size + 2) (k := w.heap.size + 1) (a := .bool false) (b := .slice none 0 0) (c := .slice none 0 0) (d := .slice none 0 0) (by omega)).trans h7
    obtain ⟨t0, t1, t2, t3, _, _, _, _⟩ := blkCells h9
    obtain ⟨s0, s1, s2, s3, _, _, _, _⟩ := blkCells h10
    have hS := HS.out
    have hW : Below w.heap.size w w1 := HB.out.trans (HB1.out.mono (by omega))
    rw [HF.out.1, HF.out.2.1, HF.out.2.2]
    exact bodyPost_ret (v := .tuple #[.agg #[.bool false, .slice none 0 0, .slice none 0 0, .slice none 0 0], .agg #[.bool false, .slice none 0 0, .slice none 0 0, .slice none 0 0], .int .i64 6]) (by simp [results, Try.results18, go_sem, t0, t1, t2, t3, s0, s1, s2, s3]) rfl (newC_ret (zero_tree _ 0 _) (zero_tree _ 0 _) (Below.set4 (Below.set4 hW (by omega)) (by omega)))
  · obtain ⟨hpar, hup, hlast⟩ := parent_cons hlp
    rw [hpar] at HPR
    obtain ⟨b, o, rfl, hbl, hc0⟩ := hp.at_ (k := k) (by omega)
    obtain ⟨i, hi⟩ : ∃ i, i = iAt p k := ⟨_, rfl⟩
    rw [← hi] at hc0
    have HF := hd (show cutE n p = chgT (cutF i) n (p.take k) by unfold cutE; rw [if_neg (by omega), hup, hlast, hi])
    have HM := hd (show ((getO n (p.take k)).bind fun a => kidT a i) = getO n p by rw [getO_up (p := p) (by omega), hup, hlast, hi])
    have HCM := hd (show cutM n p = (getO n p).getD zeroT by
      unfold cutM; rw [if_neg (by omega)]; unfold getE; cases getO n p <;> rfl)
    have HC0 := hd hc0
    have HCH := hd (fun (w1 : World) (v1 : Value) (ho1 : OwnI w1 wb.heap.size v1 (p.take k)) (hb1 : Below wb.heap.size wb w1) (A1 : Option Addr) (c1 : Nat) (hv : v1 = .slice A1 k c1) (hc1 : k ≤ c1) (hI : IL w1 w1.heap.size A1 (p.take k)) =>
      change2_any (cutMake w1.heap.size (w.heap.size + 2) i (by have := hb1.size; omega)) (p.take k) d (w1.alloc (.cells #[.int .i64 i] 3)) (.agg #[.bool lf, .slice PA np pc, .slice TA nt tc, .slice KA nk kc]) n A1 k c1 (by simp; omega) (by omega) hc1 (by have := hb1.size; simp; omega)
        (by
          have hz := hb1.size
          have hba : Below w1.heap.size w1 (w1.alloc (.cells #[.int .i64 i] 3)) := (Below.refl _ _).alloc (Nat.le_refl _) _
          exact ⟨⟨_, _, _, _, keepBlk (keepBlk hrb hb1) hba⟩, heap_alloc_new _ _⟩)
        (by
          have hz := hb1.size
          have hba : Below w1.heap.size w1 (w1.alloc (.cells #[.int .i64 i] 3)) := (Below.refl _ _).alloc (Nat.le_refl _) _
          exact (((hn.below hb0).below (hb1.mono (by omega))).more (show w.heap.size ≤ w.heap.size + 2 by omega)).below (hba.mono (by omega)))
        (hI.later ((Below.refl _ _).alloc (Nat.le_refl _) _)) (fun _ a ha => by
          subst hv ha
          have := (ho1.lt (j := a.block) rfl).1
          omega) (fun _ _ => trivial))
    have HTK := hd (show (p.take k).length = k by simp; omega)
    obtain ⟨FR, hFR⟩ : ∃ FR, FR = chgT (cutF i) n (p.take k) := ⟨_, rfl⟩
    simp only [← hFR] at HCH
    rw [← hFR] at HF
    obtain ⟨F1, F2⟩ := FR
    clear hn hp hb0 hsb hmb hrb hnb hlp hpar hup hlast hi hc0 hFR
    go_enter Try.func18, Try.ntmps18
    subst hwb
    go_wp2_with (first
      | (go_at_call 33; refine HPR.out.mono ?_; intro e w1 h1; obtain ⟨v1, rfl, ho1, hb1⟩ := h1; obtain ⟨A1, c1, rfl, hc1, hI1⟩ := ho1.open_at k HTK.out; have HR1 := hd (keepBlk HRB.out hb1); have HM1 := hd (keepBlk HMB.out hb1); obtain ⟨x0, x1, x2, x3, _, _, _, _⟩ := blkCells (keepBlk HNB.out hb1); have hcc := (hb1.cell (p := ⟨b, o + k, none⟩) (by rw [HS.out]; show b < _; omega)).trans ((HB.out.cell (p := ⟨b, o + k, none⟩) hbl).trans HC0.out); have HCH1 := hd (HCH.out w1 _ ho1 hb1 A1 c1 rfl hc1 hI1); have HB1 := hd hb1; have hz1 := hb1.size; rw [HS.out] at hz1; have hl1 : w.heap.size < w1.heap.size := (by omega); clear ho1 hb1 hI1)
      | (go_at_call 39; refine HCH1.out.mono ?_; intro e w2 h2; obtain ⟨v2, d2, rfl, ht2, ho2, hl2⟩ := h2; obtain ⟨lf4, PA4, np4, pc4, TA4, nt4, tc4, KA4, nk4, kc4, rfl⟩ := (ht2.at_ (B := w2.heap.size) (fun b hb => hb.2)).val; have hze : (w1.alloc (.cells #[.int .i64 i] 3)).heap.size = w1.heap.size + 1 := (by simp); have hz2 := ho2.size; rw [hze] at hz2; have hba : Below w1.heap.size w1 (w1.alloc (.cells #[.int .i64 i] 3)) := (Below.refl _ _).alloc (Nat.le_refl _) _; have HM2 := hd ((ho2.block _ (by rw [hze]; omega) (by omega)).trans (keepBlk HM1.out hba)); obtain ⟨m0, m1, m2, m3, m4, m5, m6, m7⟩ := blkCells HM2.out; have HL2 := hd (left_val hl2 (keepBlk HR1.out hba)); obtain ⟨lf5, PA5, np5, pc5, TA5, nt5, tc5, KA5, nk5, kc5, d5, hg5, ht5⟩ := HL2.out; obtain ⟨r0, r1, r2, r3, r4, r5, r6, r7⟩ := blkCells hg5; have HG5 := hd hg5; have HT5 := hd ht5; have HT2 := hd ht2; have HO2 := hd ((Off.of_below (g := w.heap.size + 2) hba).trans ho2); have HZE := hd hze; have hl2' : w.heap.size + 2 < w2.heap.size := (by omega); clear hg5 ht5 ht2 ho2 hl2 hba hze HL2))
    have h7 := set4_block (a := .bool lf4) (b := .slice PA4 np4 pc4) (c := .slice TA4 nt4 tc4) (d := .slice KA4 nk4 kc4) HM2.out
    have h8 := (set4_other (w := w2) (g := w.heap.size + 1) (k := w.heap.size + 2) (a := .bool lf4) (b := .slice PA4 np4 pc4) (c := .slice TA4 nt4 tc4) (d := .slice KA4 nk4 kc4) (by omega)).trans HG5.out
    have hS := HS.out
    have hze := HZE.out
    have hO7 := (((Off.of_below (g := w.heap.size + 2) HB.out).trans (Off.of_below HB1.out)).trans HO2.out).set4 (k := w.heap.size + 1) (a := .bool lf4) (b := .slice PA4 np4 pc4) (c := .slice TA4 nt4 tc4) (d := .slice KA4 nk4 kc4) (.inl (by omega))
    have hk7 : ∀ q, w1.heap.size + 1 ≤ q → q < w2.heap.size → ((((w2.setCell ⟨w.heap.size + 1, 0, none⟩ (.bool lf4)).setCell ⟨w.heap.size + 1, 1, none⟩ (.slice PA4 np4 pc4)).setCell ⟨w.heap.size + 1, 2, none⟩ (.slice TA4 nt4 tc4)).setCell ⟨w.heap.size + 1, 3, none⟩ (.slice KA4 nk4 kc4)).heap[q]? = w2.heap[q]? := fun q h1 _ => set4_other (by omega)
    have hs7 : ((((w2.setCell ⟨w.heap.size + 1, 0, none⟩ (.bool lf4)).setCell ⟨w.heap.size + 1, 1, none⟩ (.slice PA4 np4 pc4)).setCell ⟨w.heap.size + 1, 2, none⟩ (.slice TA4 nt4 tc4)).setCell ⟨w.heap.size + 1, 3, none⟩ (.slice KA4 nk4 kc4)).heap.size = w2.heap.size := set4_size
    clear m0 m1 m2 m3 m4 m5 m6 m7 r0 r1 r2 r3 r4 r5 r6 r7
    generalize hW7 : ((((w2.setCell ⟨w.heap.size + 1, 0, none⟩ (.bool lf4)).setCell ⟨w.heap.size + 1, 1, none⟩ (.slice PA4 np4 pc4)).setCell ⟨w.heap.size + 1, 2, none⟩ (.slice TA4 nt4 tc4)).setCell ⟨w.heap.size + 1, 3, none⟩ (.slice KA4 nk4 kc4)) = W7 at *
    clear hW7
    have H7 := hd h7
    have H8 := hd h8
    have HO7 := hd hO7
    have HK7 := hd hk7
    have HS7 := hd hs7
    obtain ⟨m0, m1, m2, m3, m4, m5, m6, m7⟩ := blkCells h7
    obtain ⟨r0, r1, r2, r3, r4, r5, r6, r7⟩ := blkCells h8
    clear h7 h8 hO7 hk7 hs7 hze
    go_region
    go_wp2
    have h9 := set4_block (a := .bool lf4) (b := .slice PA4 np4 pc4) (c := .slice TA4 nt4 tc4) (d := .slice KA4 nk4 kc4) H7.out
    have h10 := (set4_other (w := W7) (g := w.heap.size + 1) (k := w.heap.size + 2) (a := .bool lf4) (b := .slice PA4 np4 pc4) (c := .slice TA4 nt4 tc4) (d := .slice KA4 nk4 kc4) (by omega)).trans H8.out
    have h11 := set4_block (a := .bool lf5) (b := .slice PA5 np5 pc5) (c := .slice TA5 nt5 tc5) (d := .slice KA5 nk5 kc5) h10
    have h12 := (set4_other (g := w.heap.size + 2) (k := w.heap.size + 1) (a := .bool lf5) (b := .slice PA5 np5 pc5) (c := .slice TA5 nt5 tc5) (d := .slice KA5 nk5 kc5) (by omega)).trans h9
    obtain ⟨t0, t1, t2, t3, _, _, _, _⟩ := blkCells h11
    obtain ⟨s0, s1, s2, s3, _, _, _, _⟩ := blkCells h12
    have hze := HZE.out
    have hs7 := HS7.out
    rw [HCM.out, ← HM.out, HF.out]
    have hW : Below w.heap.size w W7 := HO7.out.below (by omega) (Nat.le_refl _)
    exact bodyPost_ret (v := .tuple #[.agg #[.bool lf4, .slice PA4 np4 pc4, .slice TA4 nt4 tc4, .slice KA4 nk4 kc4], .agg #[.bool lf5, .slice PA5 np5 pc5, .slice TA5 nt5 tc5, .slice KA5 nk5 kc5], .int .i64 F2]) (by simp [results, Try.results18, go_sem, t0, t1, t2, t3, s0, s1, s2, s3]) rfl
      (cut_out (lo := (w1.alloc (.cells #[.int .i64 i] 3)).heap.size) (g1 := w.heap.size + 1) (g2 := w.heap.size + 1 + 1) (by omega) (by omega) (by omega) (by omega) hs7 (fun q h1 h2 => HK7.out q (by rw [← hze]; exact h1) h2) HT2.out HT5.out hW)

end Go.Proofs.Ytggapngibkeodaa
