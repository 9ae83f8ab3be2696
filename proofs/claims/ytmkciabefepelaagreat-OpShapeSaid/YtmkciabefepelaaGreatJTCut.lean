/- Cut: the closure, and the call. -/
import Derived.Test.YtmkciabefepelaaGreatJTPut
import Derived.Test.YtmkciabefepelaaGreatJIAlike
import Derived.Test.YtmkciabefepelaaGreatJTTree
set_option maxRecDepth 4000
set_option maxHeartbeats 8000000
namespace Go.Proofs.YtmkciabefepelaaGreat
open Go.RowKit
def kFn (g : Nat) (w : World) : Prop := ∃ u0 u1 u2 u3, w.heap[g]? = some (.cells #[u0, u1, u2, u3] 26 (0, 0))
set_option maxRecDepth 100000 in
theorem zTn (ib g : Nat) (i : Int) (d : Nat) (w : World) (v : Value) (n : NT) (hn : zV d w g v n) (hg : g < w.heap.size) (hG : kFn g w) (hI : zW1 ib i w) (hig : ib ≠ g) :
  Calls Tryz.prog 131 #[v, .pointer (some ⟨ib, 0, none⟩), .pointer (some ⟨g, 0, none⟩)] w (kEz g (zJy i n) (zBh n i) w) := by
 obtain ⟨d', lf, ps, tx, ks, PA, pc, TA, tc, KA, kc, hd', hn', rfl, hps, htx, hf, hks⟩ := hn.open_
 obtain ⟨z0, z1, z2, z3, hG⟩ := hG
 obtain ⟨wb, hwb⟩ : ∃ wb, wb = (w.alloc (.cells #[.bool lf, .slice PA ps.length pc, .slice TA tx.length tc, .slice KA ks.length kc] 26)).alloc (.cells #[.bool false, .slice none 0 0, .slice none 0 0, .slice none 0 0] 26) := ⟨_, rfl⟩
 have hb0 : Below w.heap.size w wb := hwb ▸ kM (Below.refl _ _) (Nat.le_refl _)
 have hsb : wb.heap.size = w.heap.size + 2 := by rw [hwb]; simp
 have htb : wb.heap[w.heap.size]? = some (.cells #[.bool lf, .slice PA ps.length pc, .slice TA tx.length tc, .slice KA ks.length kc] 26 (0, 0)) /\ wb.heap[w.heap.size + 1]? = some (.cells #[.bool false, .slice none 0 0, .slice none 0 0, .slice none 0 0] 26 (0, 0)) := hwb ▸ zBj w _ _ _ _ _ _ _ _ _ _
 have hib : wb.cell? ⟨ib, 0, none⟩ = some (.int .i64 i) := zLk (kI hI hb0)
 have hibl := lt_of_block hI
 obtain ⟨x0, x1, x2, x3, _, _, _, _⟩ := zJ htb.1
 have hl3 := hf.2.2.2.1
 have HB := hd hb0
 have HS := hd hsb
 have HTB := hd htb
 have HN := hd hn
 have HN' := hd hn'
 have HIB := hd (show zW1 ib i wb from kI hI hb0)
 have HGB := hd (kI hG hb0)
 have HKS := hd hks
 obtain ⟨hb, hhb⟩ : ∃ hb, zOf n i = hb := ⟨_, rfl⟩
 have HK := hd (zD6 n i hb hhb d wb _ ((hn.below (hb0.mono (by omega))).more (by omega)))
 have HHB := hd hhb
 clear hn hb0 hsb htb hps htx hf hks hd' hn' hI hG hhb
 have hS := HS.out
 cases hb
 ·have HF := hd (show zJy i n = (zeroT, 5) by unfold zJy; rw [HHB.out]; rfl)
  have HE := hd (zJx HHB.out)
  go_enter Tryz.func131, Tryz.ntmps131
  subst hwb
  go_wp2_with (first | (go_at_call 74; refine HK.out.mono ?_; rintro e w2 ⟨rfl, b2⟩; have hz2 := b2.size; have HB2 := hd b2; have HR2 := hd (kI HTB.out.2 b2); obtain ⟨r0, r1, r2, r3, r4, r5, r6, r7⟩ := zJ HR2.out; clear b2))
  have h7 := kD (a := .bool false) (b := .slice none 0 0) (c := .slice none 0 0) (d := .slice none 0 0) HR2.out
  obtain ⟨t0, t1, t2, t3, _, _, _, _⟩ := zJ h7
  rw [hS] at hz2
  have hW : Below w.heap.size w w2 := HB.out.trans (HB2.out.mono (by omega))
  refine bodyPost_ret (v := .tuple #[.agg #[.bool false, .slice none 0 0, .slice none 0 0, .slice none 0 0], .int .i64 5]) (by simp [results, Tryz.results131, go_sem, t0, t1, t2, t3]) rfl (zB0 HF.out (zBs _ 0 _) ((Off.of_below hW).set4 (.inl (by omega))) ?_)
  rw [HE.out]
  exact (zT (by omega)).trans (hW.block g hg)
 ·obtain ⟨kid, hkid⟩ := zJw HHB.out
  obtain ⟨hk1, hk2, hk3⟩ := zA1 hkid
  have HF := hd (show zJy i n = (jS n i.toNat 1 [], 0) by unfold zJy; rw [HHB.out]; rfl)
  have HE := hd hkid
  obtain ⟨j, hj⟩ : ∃ j : Nat, i = (j : Int) := ⟨i.toNat, by omega⟩
  subst hj
  have hj1 : j < ks.length := by have := hk2; rw [HN'.out] at this; simp only [NT.ks] at this; omega
  obtain ⟨m2, b', o', lf2, PA2, np2, pc2, TA2, nt2, tc2, KA2, nk2, kc2, hm2, rfl, hbg2, hnm2, c0, c1, c2, c3⟩ := (HKS.out.below (HB.out.mono (by omega))).at_ hj1
  have hmk : m2 = kid := by have := hk3; rw [HN'.out] at this; simp only [NT.ks, Int.toNat_natCast] at this; rw [hm2] at this; injection this
  subst hmk
  have HN2 := hd hnm2
  clear hkid hk1 hk2 hk3 hm2 hnm2
  go_enter Tryz.func131, Tryz.ntmps131
  subst hwb
  go_wp2_with (first
   | (go_at_call 74; refine HK.out.mono ?_; rintro e w2 ⟨rfl, b2⟩; have hz2 := b2.size; rw [hS] at hz2; have HB2 := hd b2; have HR2 := hd (kI HTB.out.2 b2); have HG2 := hd (kI HGB.out b2); have HI2 := hd (kI HIB.out b2); have HV2 := hd (kI HTB.out.1 b2); clear x0 x1 x2 x3; obtain ⟨x0, x1, x2, x3, _, _, _, _⟩ := zJ HV2.out; clear hib; have hib := zLk HI2.out; have e0 := (b2.cell (kQ c0)).trans c0; have e1 := (b2.cell (kQ c1)).trans c1; have e2 := (b2.cell (kQ c2)).trans c2; have e3 := (b2.cell (kQ c3)).trans c3; clear c0 c1 c2 c3; have hn2 := HN2.out.below (b2.mono (by omega)); have HN2' := hd (show zV d' w2 w2.heap.size _ m2 from hn2.more (by omega)); clear b2 hn2)
   | (go_at_call 75; refine Calls.mono (zEy d' w2 _ m2 HN2'.out) ?_; intro e w3 h3; obtain ⟨v3, rfl, ht3, hb3⟩ := h3; obtain ⟨lf4, PA4, np4, pc4, TA4, nt4, tc4, KA4, nk4, kc4, rfl⟩ := (ht3.at_ (B := w3.heap.size) (fun b hb => hb.2)).val; have HB3 := hd hb3; have HT3 := hd ht3; have hz3 := hb3.size; have HR3 := hd (kI HR2.out hb3); have HG3 := hd (kI HG2.out hb3); have HI3 := hd (kI HI2.out hb3); have HV3 := hd (kI HV2.out hb3); obtain ⟨g0, g1, g2, g3, g4, g5, g6, g7⟩ := zJ HG3.out; clear x0 x1 x2 x3 hib e0 e1 e2 e3; obtain ⟨x0, x1, x2, x3, _, _, _, _⟩ := zJ HV3.out; have hib := zLk HI3.out; have hn3 := (HN.out.below (HB.out.mono (by omega))).below ((HB2.out.mono (by omega)).trans (HB3.out.mono (by omega))); have hz4 : ((((w3.setCell ⟨g, 0, none⟩ (.bool lf4)).setCell ⟨g, 1, none⟩ (.slice PA4 np4 pc4)).setCell ⟨g, 2, none⟩ (.slice TA4 nt4 tc4)).setCell ⟨g, 3, none⟩ (.slice KA4 nk4 kc4)).heap.size = w3.heap.size := jK; have hn4 : zV d ((((w3.setCell ⟨g, 0, none⟩ (.bool lf4)).setCell ⟨g, 1, none⟩ (.slice PA4 np4 pc4)).setCell ⟨g, 2, none⟩ (.slice TA4 nt4 tc4)).setCell ⟨g, 3, none⟩ (.slice KA4 nk4 kc4)) ((((w3.setCell ⟨g, 0, none⟩ (.bool lf4)).setCell ⟨g, 1, none⟩ (.slice PA4 np4 pc4)).setCell ⟨g, 2, none⟩ (.slice TA4 nt4 tc4)).setCell ⟨g, 3, none⟩ (.slice KA4 nk4 kc4)).heap.size _ n := (hn3.below (Below.set4 (Below.refl _ _) (Nat.le_refl g))).more (by rw [hz4]; omega); have HSP := hd (zIe (fun _ => False) d _ (fun _ h => h.elim) _ n j 1 0 0 (j : Int) 1 rfl rfl none [] [] hn4 (zGi.nil _ _ _ _) rfl (by rw [HN'.out]; exact hj1) (by have := hl3; rw [HN'.out]; show ks.length + 0 <= _; omega)); have HZ4 := hd hz4; clear ht3 hb3 hn3 hn4 hz4)
   | (go_at_call 132; refine HSP.out.mono ?_; intro e w9 h9; obtain ⟨v9, rfl, ht9, hb9⟩ := h9; obtain ⟨lf9, PA9, np9, pc9, TA9, nt9, tc9, KA9, nk9, kc9, rfl⟩ := (ht9.at_ (B := w9.heap.size) (fun b hb => hb.2)).val; have hz9 := hb9.size; rw [HZ4.out] at hz9; have HR9 := hd (show w9.heap[w.heap.size + 1]? = some (.cells #[.bool false, .slice none 0 0, .slice none 0 0, .slice none 0 0] 26 (0, 0)) from (hb9.block _ (by rw [HZ4.out]; omega)).trans ((zT (by omega)).trans HR3.out)); obtain ⟨q0, q1, q2, q3, q4, q5, q6, q7⟩ := zJ HR9.out; have HT9 := hd ht9; have HB9 := hd hb9; clear ht9 hb9))
  have h7 := kD (a := .bool lf9) (b := .slice PA9 np9 pc9) (c := .slice TA9 nt9 tc9) (d := .slice KA9 nk9 kc9) HR9.out
  obtain ⟨t0, t1, t2, t3, _, _, _, _⟩ := zJ h7
  have hz4 := HZ4.out
  have hW3 : Below w.heap.size w w3 := HB.out.trans ((HB2.out.mono (by omega)).trans (HB3.out.mono (by omega)))
  have hO : Off g w w9 := ((Off.of_below hW3).set4 (.inr rfl)).trans (Off.of_below HB9.out)
  refine bodyPost_ret (v := .tuple #[.agg #[.bool lf9, .slice PA9 np9 pc9, .slice TA9 nt9 tc9, .slice KA9 nk9 kc9], .int .i64 0]) (by simp [results, Tryz.results131, go_sem, t0, t1, t2, t3]) rfl (zB0 HF.out (HT9.out.keep (fun b hb => ?_) (fun p hp => ?_)) (hO.set4 (.inl (by omega))) ?_)
  ·rw [jK]
   rcases hb.1 with h | h
   ·exact h.elim
   ·rw [hz4] at h; exact ⟨by omega, hb.2⟩
  ·have hne : p.block ≠ w.heap.size + 1 := by
    rcases hp.1 with h | h
    ·exact h.elim
    ·rw [hz4] at h; omega
   exact ⟨World.cell?_of_block (zT hne), World.frozen?_of_block (zT hne)⟩
  ·rw [HE.out]
   refine ⟨.bool lf4, .slice PA4 np4 pc4, .slice TA4 nt4 tc4, .slice KA4 nk4 kc4, d', ?_, HT3.out.block_keep (fun b h1 h2 => by rw [jK]; omega) (fun b h1 h2 => (zT (by omega)).trans ((HB9.out.block b (by rw [hz4]; omega)).trans (zT (by omega))))⟩
   exact (zT (by omega)).trans ((HB9.out.block g (by rw [hz4]; omega)).trans (kD HG3.out))
theorem kHr (ib g : Nat) (i : Int) (hig : ib ≠ g) : zT1 131 (.pointer (some ⟨ib, 0, none⟩)) (.pointer (some ⟨g, 0, none⟩)) g (zJy i) (fun n => zBh n i) (fun w => kFn g w /\ zW1 ib i w) (fun _ => True) :=
 ⟨enters_of Tryz.func131 (by kernel_rfl) rfl, fun w w' h hb => ⟨(by obtain ⟨u0, u1, u2, u3, e⟩ := h.1; exact ⟨u0, u1, u2, u3, kI e hb⟩), kI h.2 hb⟩, fun d w v n hn hg hC _ => zTn ib g i d w v n hn hg hC.1 hC.2 hig⟩
def kFo (r1 r2 : NT) (er : Int) (w : World) (e : Ending) (w' : World) : Prop :=
 ∃ v1 v2 d, e = .returned (.tuple #[v1, v2, .int .i64 er]) /\ zAx (fun b => w.heap.size <= b /\ b < w'.heap.size) d w' v1 r1 /\ zAx (fun b => w.heap.size <= b /\ b < w'.heap.size) d w' v2 r2 /\ Below w.heap.size w w'
theorem zU7 {r1 r2 : NT} {er : Int} {w w' : World} {v1 v2 : Value} {d1 d2 : Nat} (h1 : zAx (fun b => w.heap.size <= b /\ b < w'.heap.size) d1 w' v1 r1) (h2 : zAx (fun b => w.heap.size <= b /\ b < w'.heap.size) d2 w' v2 r2) (hb : Below w.heap.size w w') : kFo r1 r2 er w (.returned (.tuple #[v1, v2, .int .i64 er])) w' :=
 ⟨v1, v2, max d1 d2, rfl, h1.deep (Nat.le_max_left _ _), h2.deep (Nat.le_max_right _ _), hb⟩
theorem zAx.drew' {P : Nat -> Prop} {d : Nat} {w : World} {v : Value} {n : NT} (h : zAx P d w v n) : zAx P d w.drew v n := zAx.keep (w := w) (w' := w.drew) (fun _ h => h) (fun _ _ => ⟨rfl, rfl⟩) h
theorem kHs {w w2 W7 : World} {lo g1 g2 : Nat} {F1 M : NT} {F2 : Int} {d2 d5 : Nat} {v4 v5 a b c d a' b' c' d' : Value} (h1 : w.heap.size <= g1) (h2 : w.heap.size <= g2) (hl1 : g1 < lo) (hl2 : g2 < lo) (hs : W7.heap.size = w2.heap.size) (hk : ∀ q, lo <= q -> q < w2.heap.size -> W7.heap[q]? = w2.heap[q]?)
  (hT2 : zAx (fun b => lo <= b /\ b < w2.heap.size) d2 w2 v4 F1) (hT5 : zAx (fun b => lo <= b /\ b < w2.heap.size) d5 w2 v5 M) (hW : Below w.heap.size w W7) :
  kFo F1 M F2 w (.returned (.tuple #[v4, v5, .int .i64 F2])) (((((((((W7.setCell ⟨g1, 0, none⟩ a).setCell ⟨g1, 1, none⟩ b).setCell ⟨g1, 2, none⟩ c).setCell ⟨g1, 3, none⟩ d).setCell ⟨g2, 0, none⟩ a').setCell ⟨g2, 1, none⟩ b').setCell ⟨g2, 2, none⟩ c').setCell ⟨g2, 3, none⟩ d').drew) := by
 obtain ⟨W8, hW8⟩ : ∃ W8, W8 = ((((W7.setCell ⟨g1, 0, none⟩ a).setCell ⟨g1, 1, none⟩ b).setCell ⟨g1, 2, none⟩ c).setCell ⟨g1, 3, none⟩ d) := ⟨_, rfl⟩
 obtain ⟨W9, hW9⟩ : ∃ W9, W9 = ((((W8.setCell ⟨g2, 0, none⟩ a').setCell ⟨g2, 1, none⟩ b').setCell ⟨g2, 2, none⟩ c').setCell ⟨g2, 3, none⟩ d') := ⟨_, rfl⟩
 rw [<- hW8, <- hW9]
 have s8 : W8.heap.size = w2.heap.size := by rw [hW8, jK, hs]
 have s9 : W9.heap.size = w2.heap.size := by rw [hW9, jK, s8]
 have k9 : ∀ q, lo <= q -> q < w2.heap.size -> W9.heap[q]? = w2.heap[q]? := fun q q1 q2 => by
  rw [hW9, zT (by omega), hW8, zT (by omega)]; exact hk q q1 q2
 have b8 : Below w.heap.size w W8 := hW8 ▸ Below.set4 hW h1
 have b9 : Below w.heap.size w W9 := hW9 ▸ Below.set4 b8 h2
 have t : ∀ {dd : Nat} {v : Value} {n : NT}, zAx (fun b => lo <= b /\ b < w2.heap.size) dd w2 v n -> zAx (fun b => w.heap.size <= b /\ b < W9.drew.heap.size) dd W9.drew v n := fun {dd v n} h =>
  (h.block_keep (w' := W9) (Q := fun b => w.heap.size <= b /\ b < W9.drew.heap.size) (fun b q1 q2 => ⟨by omega, by show b < W9.heap.size; omega⟩) k9).drew'
 exact zU7 (t hT2) (t hT5) b9.drew
theorem kDw {g : Nat} {s : Option NT} {w w' : World} (h : zJ6 g s w w') (hz : w.heap[g]? = some (.cells #[.bool false, .slice none 0 0, .slice none 0 0, .slice none 0 0] 26 (0, 0))) :
  ∃ lf PA np pc TA nt tc KA nk kc d, w'.heap[g]? = some (.cells #[.bool lf, .slice PA np pc, .slice TA nt tc, .slice KA nk kc] 26 (0, 0)) /\ zAx (fun b => w.heap.size <= b /\ b < w'.heap.size) d w' (.agg #[.bool lf, .slice PA np pc, .slice TA nt tc, .slice KA nk kc]) (s.getD zeroT) := by
 cases s with
 | none => exact ⟨_, _, _, _, _, _, _, _, _, _, 1, Eq.trans h hz, zBs _ 0 _⟩
 | some t =>
  obtain ⟨u0, u1, u2, u3, d, h1, h2⟩ := h
  obtain ⟨lf, PA, np, pc, TA, nt, tc, KA, nk, kc, e⟩ := (h2.at_ (B := w'.heap.size) (fun b hb => hb.2)).val
  simp only [Value.agg.injEq, Array.mk.injEq, List.cons.injEq, and_true] at e
  obtain ⟨rfl, rfl, rfl, rfl⟩ := e
  exact ⟨_, _, _, _, _, _, _, _, _, _, d, h1, h2⟩
set_option maxRecDepth 100000 in
theorem kDx (d : Nat) (w : World) (v : Value) (n : NT) (A : Option Addr) (p : List Int) (lp c : Nat) (hlp : p.length = lp) (hl : lp <= 1000) (hc : lp <= c) (hn : zV d w w.heap.size v n) (hp : IL w w.heap.size A p) :
  Calls Tryz.prog 83 #[v, .slice A lp c] w (kFo (zBw n p).1 (zE3 n p) (zBw n p).2 w) := by
 obtain ⟨lf, PA, np, pc, TA, nt, tc, KA, nk, kc, rfl⟩ := hn.val
 obtain ⟨wb, hwb⟩ : ∃ wb, wb = ((w.alloc (.cells #[.bool lf, .slice PA np pc, .slice TA nt tc, .slice KA nk kc] 26)).alloc (.cells #[.bool false, .slice none 0 0, .slice none 0 0, .slice none 0 0] 26)).alloc (.cells #[.bool false, .slice none 0 0, .slice none 0 0, .slice none 0 0] 26) := ⟨_, rfl⟩
 have hb0 : Below w.heap.size w wb := hwb ▸ (kM (Below.refl _ _) (Nat.le_refl _)).alloc (by simp; omega) _
 have hsb : wb.heap.size = w.heap.size + 3 := by rw [hwb]; simp
 have hnb : wb.heap[w.heap.size]? = some (.cells #[.bool lf, .slice PA np pc, .slice TA nt tc, .slice KA nk kc] 26 (0, 0)) := by
  rw [hwb, Below.heap_alloc _ _ _ (by simp; omega)]; exact (zBj w _ _ _ _ _ _ _ _ _ _).1
 have hmb : wb.heap[w.heap.size + 1]? = some (.cells #[.bool false, .slice none 0 0, .slice none 0 0, .slice none 0 0] 26 (0, 0)) := by
  rw [hwb, Below.heap_alloc _ _ _ (by simp)]; exact (zBj w _ _ _ _ _ _ _ _ _ _).2
 have hrb : wb.heap[w.heap.size + 2]? = some (.cells #[.bool false, .slice none 0 0, .slice none 0 0, .slice none 0 0] 26 (0, 0)) := by
  rw [hwb]
  have e : ∀ (A B : Obj), w.heap.size + 2 = ((w.alloc A).alloc B).heap.size := fun A B => by simp
  rw [e]; exact heap_alloc_new _ _
 have HPR := hd (zNx A p lp c wb hlp hl hc ((hp.below hb0).more (by omega)))
 have HB := hd hb0
 have HS := hd hsb
 have HRB := hd hrb
 have HMB := hd hmb
 have HNB := hd hnb
 rcases lp with _ | k
 ·have HF := hd (show (zBw n p).1 = zeroT /\ zE3 n p = zeroT /\ (zBw n p).2 = 6 by unfold zBw zE3; rw [if_pos hlp, if_pos hlp]; exact ⟨rfl, rfl, rfl⟩)
  rw [zOe hlp] at HPR
  clear hn hp hb0 hsb hmb hrb hnb hlp
  go_enter Tryz.func83, Tryz.ntmps83
  subst hwb
  go_wp2_with (first | (go_at_call 129; refine HPR.out.mono ?_; intro e w1 h1; obtain ⟨v1, rfl, ho1, hb1⟩ := h1; have HR1 := hd (kI HRB.out hb1); have HM1 := hd (kI HMB.out hb1); obtain ⟨r0, r1, r2, r3, r4, r5, r6, r7⟩ := zJ HR1.out; obtain ⟨m0, m1, m2, m3, m4, m5, m6, m7⟩ := zJ HM1.out; have HB1 := hd hb1; have hz1 := hb1.size; rw [HS.out] at hz1; clear ho1 hb1))
  have h7 := kD (a := .bool false) (b := .slice none 0 0) (c := .slice none 0 0) (d := .slice none 0 0) HM1.out
  have h8 := (zT (w := w1) (g := w.heap.size + 1) (k := w.heap.size + 2) (a := .bool false) (b := .slice none 0 0) (c := .slice none 0 0) (d := .slice none 0 0) (by omega)).trans HR1.out
  have h9 := kD (a := .bool false) (b := .slice none 0 0) (c := .slice none 0 0) (d := .slice none 0 0) h8
  have h10 := (zT (g := w.heap.size + 2) (k := w.heap.size + 1) (a := .bool false) (b := .slice none 0 0) (c := .slice none 0 0) (d := .slice none 0 0) (by omega)).trans h7
  obtain ⟨t0, t1, t2, t3, _, _, _, _⟩ := zJ h9
  obtain ⟨s0, s1, s2, s3, _, _, _, _⟩ := zJ h10
  have hS := HS.out
  have hW : Below w.heap.size w w1 := HB.out.trans (HB1.out.mono (by omega))
  rw [HF.out.1, HF.out.2.1, HF.out.2.2]
  exact bodyPost_ret (v := .tuple #[.agg #[.bool false, .slice none 0 0, .slice none 0 0, .slice none 0 0], .agg #[.bool false, .slice none 0 0, .slice none 0 0, .slice none 0 0], .int .i64 6]) (by simp [results, Tryz.results83, go_sem, t0, t1, t2, t3, s0, s1, s2, s3]) rfl (zU7 (zBs _ 0 _) (zBs _ 0 _) (Below.set4 (Below.set4 hW (by omega)) (by omega)))
 ·obtain ⟨hpar, hup, hlast⟩ := zM3 hlp
  rw [hpar] at HPR
  obtain ⟨b, o, rfl, hbl, hc0⟩ := hp.at_ (k := k) (by omega)
  obtain ⟨i, hi⟩ : ∃ i, i = iAt p k := ⟨_, rfl⟩
  rw [<- hi] at hc0
  have HF := hd (show zBw n p = zIf (zJy i) n (p.take k) by unfold zBw; rw [if_neg (by omega), hup, hlast, hi])
  have HM := hd (show ((kB n (p.take k)).bind fun a => zBh a i) = kB n p by rw [zHv (p := p) (by omega), hup, hlast, hi])
  have HCM := hd (show zE3 n p = (kB n p).getD zeroT by
   unfold zE3; rw [if_neg (by omega)]; unfold zGm; cases kB n p <;> rfl)
  have HC0 := hd hc0
  have HCH := hd (fun (w1 : World) (v1 : Value) (ho1 : zBt w1 wb.heap.size v1 (p.take k)) (hb1 : Below wb.heap.size wb w1) (A1 : Option Addr) (c1 : Nat) (hv : v1 = .slice A1 k c1) (hc1 : k <= c1) (hI : IL w1 w1.heap.size A1 (p.take k)) =>
   zNf (kHr w1.heap.size (w.heap.size + 2) i (by have := hb1.size; omega)) (p.take k) d (w1.alloc (.cells #[.int .i64 i] 3)) (.agg #[.bool lf, .slice PA np pc, .slice TA nt tc, .slice KA nk kc]) n A1 k c1 (by simp; omega) (by omega) hc1 (by have := hb1.size; simp; omega)
    (by
     have hz := hb1.size
     have hba : Below w1.heap.size w1 (w1.alloc (.cells #[.int .i64 i] 3)) := (Below.refl _ _).alloc (Nat.le_refl _) _
     exact ⟨⟨_, _, _, _, kI (kI hrb hb1) hba⟩, heap_alloc_new _ _⟩)
    (by
     have hz := hb1.size
     have hba : Below w1.heap.size w1 (w1.alloc (.cells #[.int .i64 i] 3)) := (Below.refl _ _).alloc (Nat.le_refl _) _
     exact (((hn.below hb0).below (hb1.mono (by omega))).more (show w.heap.size <= w.heap.size + 2 by omega)).below (hba.mono (by omega)))
    (hI.later ((Below.refl _ _).alloc (Nat.le_refl _) _)) (fun _ a ha => by
     subst hv ha
     have := (ho1.lt (j := a.block) rfl).1
     omega) (fun _ _ => trivial))
  have HTK := hd (show (p.take k).length = k by simp; omega)
  obtain ⟨FR, hFR⟩ : ∃ FR, FR = zIf (zJy i) n (p.take k) := ⟨_, rfl⟩
  simp only [<- hFR] at HCH
  rw [<- hFR] at HF
  obtain ⟨F1, F2⟩ := FR
  clear hn hp hb0 hsb hmb hrb hnb hlp hpar hup hlast hi hc0 hFR
  go_enter Tryz.func83, Tryz.ntmps83
  subst hwb
  go_wp2_with (first
   | (go_at_call 129; refine HPR.out.mono ?_; intro e w1 h1; obtain ⟨v1, rfl, ho1, hb1⟩ := h1; obtain ⟨A1, c1, rfl, hc1, hI1⟩ := ho1.open_at k HTK.out; have HR1 := hd (kI HRB.out hb1); have HM1 := hd (kI HMB.out hb1); obtain ⟨x0, x1, x2, x3, _, _, _, _⟩ := zJ (kI HNB.out hb1); have hcc := (hb1.cell (p := ⟨b, o + k, none⟩) (by rw [HS.out]; show b < _; omega)).trans ((HB.out.cell (p := ⟨b, o + k, none⟩) hbl).trans HC0.out); have HCH1 := hd (HCH.out w1 _ ho1 hb1 A1 c1 rfl hc1 hI1); have HB1 := hd hb1; have hz1 := hb1.size; rw [HS.out] at hz1; have hl1 : w.heap.size < w1.heap.size := (by omega); clear ho1 hb1 hI1)
   | (go_at_call 130; refine HCH1.out.mono ?_; intro e w2 h2; obtain ⟨v2, d2, rfl, ht2, ho2, hl2⟩ := h2; obtain ⟨lf4, PA4, np4, pc4, TA4, nt4, tc4, KA4, nk4, kc4, rfl⟩ := (ht2.at_ (B := w2.heap.size) (fun b hb => hb.2)).val; have hze : (w1.alloc (.cells #[.int .i64 i] 3)).heap.size = w1.heap.size + 1 := (by simp); have hz2 := ho2.size; rw [hze] at hz2; have hba : Below w1.heap.size w1 (w1.alloc (.cells #[.int .i64 i] 3)) := (Below.refl _ _).alloc (Nat.le_refl _) _; have HM2 := hd ((ho2.block _ (by rw [hze]; omega) (by omega)).trans (kI HM1.out hba)); obtain ⟨m0, m1, m2, m3, m4, m5, m6, m7⟩ := zJ HM2.out; have HL2 := hd (kDw hl2 (kI HR1.out hba)); obtain ⟨lf5, PA5, np5, pc5, TA5, nt5, tc5, KA5, nk5, kc5, d5, hg5, ht5⟩ := HL2.out; obtain ⟨r0, r1, r2, r3, r4, r5, r6, r7⟩ := zJ hg5; have HG5 := hd hg5; have HT5 := hd ht5; have HT2 := hd ht2; have HO2 := hd ((Off.of_below (g := w.heap.size + 2) hba).trans ho2); have HZE := hd hze; have hl2' : w.heap.size + 2 < w2.heap.size := (by omega); clear hg5 ht5 ht2 ho2 hl2 hba hze HL2))
  have h7 := kD (a := .bool lf4) (b := .slice PA4 np4 pc4) (c := .slice TA4 nt4 tc4) (d := .slice KA4 nk4 kc4) HM2.out
  have h8 := (zT (w := w2) (g := w.heap.size + 1) (k := w.heap.size + 2) (a := .bool lf4) (b := .slice PA4 np4 pc4) (c := .slice TA4 nt4 tc4) (d := .slice KA4 nk4 kc4) (by omega)).trans HG5.out
  have hS := HS.out
  have hze := HZE.out
  have hO7 := (((Off.of_below (g := w.heap.size + 2) HB.out).trans (Off.of_below HB1.out)).trans HO2.out).set4 (k := w.heap.size + 1) (a := .bool lf4) (b := .slice PA4 np4 pc4) (c := .slice TA4 nt4 tc4) (d := .slice KA4 nk4 kc4) (.inl (by omega))
  have hk7 : ∀ q, w1.heap.size + 1 <= q -> q < w2.heap.size -> ((((w2.setCell ⟨w.heap.size + 1, 0, none⟩ (.bool lf4)).setCell ⟨w.heap.size + 1, 1, none⟩ (.slice PA4 np4 pc4)).setCell ⟨w.heap.size + 1, 2, none⟩ (.slice TA4 nt4 tc4)).setCell ⟨w.heap.size + 1, 3, none⟩ (.slice KA4 nk4 kc4)).heap[q]? = w2.heap[q]? := fun q h1 _ => zT (by omega)
  have hs7 : ((((w2.setCell ⟨w.heap.size + 1, 0, none⟩ (.bool lf4)).setCell ⟨w.heap.size + 1, 1, none⟩ (.slice PA4 np4 pc4)).setCell ⟨w.heap.size + 1, 2, none⟩ (.slice TA4 nt4 tc4)).setCell ⟨w.heap.size + 1, 3, none⟩ (.slice KA4 nk4 kc4)).heap.size = w2.heap.size := jK
  clear m0 m1 m2 m3 m4 m5 m6 m7 r0 r1 r2 r3 r4 r5 r6 r7
  generalize hW7 : ((((w2.setCell ⟨w.heap.size + 1, 0, none⟩ (.bool lf4)).setCell ⟨w.heap.size + 1, 1, none⟩ (.slice PA4 np4 pc4)).setCell ⟨w.heap.size + 1, 2, none⟩ (.slice TA4 nt4 tc4)).setCell ⟨w.heap.size + 1, 3, none⟩ (.slice KA4 nk4 kc4)) = W7 at *
  clear hW7
  have H7 := hd h7
  have H8 := hd h8
  have HO7 := hd hO7
  have HK7 := hd hk7
  have HS7 := hd hs7
  obtain ⟨m0, m1, m2, m3, m4, m5, m6, m7⟩ := zJ h7
  obtain ⟨r0, r1, r2, r3, r4, r5, r6, r7⟩ := zJ h8
  clear h7 h8 hO7 hk7 hs7 hze
  go_region
  go_wp2
  have h9 := kD (a := .bool lf4) (b := .slice PA4 np4 pc4) (c := .slice TA4 nt4 tc4) (d := .slice KA4 nk4 kc4) H7.out
  have h10 := (zT (w := W7) (g := w.heap.size + 1) (k := w.heap.size + 2) (a := .bool lf4) (b := .slice PA4 np4 pc4) (c := .slice TA4 nt4 tc4) (d := .slice KA4 nk4 kc4) (by omega)).trans H8.out
  have h11 := kD (a := .bool lf5) (b := .slice PA5 np5 pc5) (c := .slice TA5 nt5 tc5) (d := .slice KA5 nk5 kc5) h10
  have h12 := (zT (g := w.heap.size + 2) (k := w.heap.size + 1) (a := .bool lf5) (b := .slice PA5 np5 pc5) (c := .slice TA5 nt5 tc5) (d := .slice KA5 nk5 kc5) (by omega)).trans h9
  obtain ⟨t0, t1, t2, t3, _, _, _, _⟩ := zJ h11
  obtain ⟨s0, s1, s2, s3, _, _, _, _⟩ := zJ h12
  have hze := HZE.out
  have hs7 := HS7.out
  rw [HCM.out, <- HM.out, HF.out]
  have hW : Below w.heap.size w W7 := HO7.out.below (by omega) (Nat.le_refl _)
  exact bodyPost_ret (v := .tuple #[.agg #[.bool lf4, .slice PA4 np4 pc4, .slice TA4 nt4 tc4, .slice KA4 nk4 kc4], .agg #[.bool lf5, .slice PA5 np5 pc5, .slice TA5 nt5 tc5, .slice KA5 nk5 kc5], .int .i64 F2]) (by simp [results, Tryz.results83, go_sem, t0, t1, t2, t3, s0, s1, s2, s3]) rfl
   (kHs (lo := (w1.alloc (.cells #[.int .i64 i] 3)).heap.size) (g1 := w.heap.size + 1) (g2 := w.heap.size + 1 + 1) (by omega) (by omega) (by omega) (by omega) hs7 (fun q h1 h2 => HK7.out q (by rw [<- hze]; exact h1) h2) HT2.out HT5.out hW)
def lfT (l : List Int) : NT := .mk true [] l []
def elT (ks : List NT) : NT := .mk false [(tyKey, { data := #[112] })] [] ks
theorem kKs {cp kc nk : Nat} (hcp : 1 <= cp) (hk : nk <= 10) (hkc : nk <= kc) : zU0 [((tyKey, { data := #[112] }) : Pr)] 0 nk cp 0 kc := ⟨⟨by simp, zZd⟩, by simp, by omega, by omega, by simpa using hcp, by omega, hkc⟩
theorem kHt {w : World} {b : Nat} (hb : b < w.heap.size) (hc : w.cell? ⟨b, 0, none⟩ = some (.int .i64 0)) : IL w w.heap.size (some ⟨b, 0, none⟩) [0] := fun _ =>
 ⟨b, 0, rfl, hb, fun k hk => by obtain rfl : k = 0 := by simp at hk; omega
                                exact hc⟩
def At (w : World) (v : Value) (n : NT) : Prop := ∃ d, zV d w w.heap.size v n
theorem kKt {w : World} {v : Value} {n : NT} {A : Option Addr} {p : List Int} {c : Nat} (hl : p.length <= 1000) (hn : At w v n) (hp : IL w w.heap.size A p) : Calls Tryz.prog 30 #[v, .slice A p.length c] w (zP2 (zGm n p) w) := by
 obtain ⟨d, hn⟩ := hn
 exact zU9 d w v n A p p.length c rfl (by omega) hn hp
theorem kKu {w : World} {v u : Value} {n m : NT} {A : Option Addr} {p : List Int} {c : Nat} (hl : p.length <= 1000) (hc : p.length <= c) (hn : At w v n) (hm : At w u m) (hp : IL w w.heap.size A p) : Calls Tryz.prog 128 #[v, .slice A p.length c, u] w (zP2 (zSe n p m) w) := by
 obtain ⟨d, hn⟩ := hn
 obtain ⟨dm, hm⟩ := hm
 exact kDz d dm w v u n m A p p.length c rfl (by omega) hc hn hm hp
theorem kKv {w : World} {v u : Value} {n m : NT} {A : Option Addr} {p : List Int} {c : Nat} (hl : p.length <= 1000) (hc : p.length <= c) (hn : At w v n) (hm : At w u m) (hp : IL w w.heap.size A p) (hbd : ∀ x, kB n (upP p) = some x -> x.ks.length < 1759218604441) : Calls Tryz.prog 84 #[v, .slice A p.length c, u] w (zP2 (zGo n p m) w) := by
 obtain ⟨d, hn⟩ := hn
 obtain ⟨dm, hm⟩ := hm
 exact kD0 d dm w v u n m A p p.length c rfl hl hc hn hm hp hbd
theorem kKw {w : World} {v : Value} {n : NT} {A : Option Addr} {p : List Int} {c : Nat} (hl : p.length <= 1000) (hc : p.length <= c) (hn : At w v n) (hp : IL w w.heap.size A p) : Calls Tryz.prog 83 #[v, .slice A p.length c] w (kFo (zBw n p).1 (zE3 n p) (zBw n p).2 w) := by
 obtain ⟨d, hn⟩ := hn
 exact kDx d w v n A p p.length c rfl hl hc hn hp
theorem kKx {w : World} {v : Value} {n x : NT} {er : Int} {A : Option Addr} {p : List Int} {c : Nat} (hr : zGm n p = (x, er)) (hl : p.length <= 1000) (hn : At w v n) (hp : IL w w.heap.size A p) : Calls Tryz.prog 30 #[v, .slice A p.length c] w (zP2 (x, er) w) := hr ▸ kKt hl hn hp
theorem kKy {w : World} {v u : Value} {n m x : NT} {er : Int} {A : Option Addr} {p : List Int} {c : Nat} (hr : zSe n p m = (x, er)) (hl : p.length <= 1000) (hc : p.length <= c) (hn : At w v n) (hm : At w u m) (hp : IL w w.heap.size A p) : Calls Tryz.prog 128 #[v, .slice A p.length c, u] w (zP2 (x, er) w) := hr ▸ kKu hl hc hn hm hp
theorem kKz {w : World} {v u : Value} {n m x : NT} {er : Int} {A : Option Addr} {p : List Int} {c : Nat} (hr : zGo n p m = (x, er)) (hl : p.length <= 1000) (hc : p.length <= c) (hn : At w v n) (hm : At w u m) (hp : IL w w.heap.size A p) (hbd : ∀ x, kB n (upP p) = some x -> x.ks.length < 1759218604441) : Calls Tryz.prog 84 #[v, .slice A p.length c, u] w (zP2 (x, er) w) := hr ▸ kKv hl hc hn hm hp hbd
theorem kK0 {w : World} {v : Value} {n x y : NT} {er : Int} {A : Option Addr} {p : List Int} {c : Nat} (hr : zBw n p = (x, er)) (hy : zE3 n p = y) (hl : p.length <= 1000) (hc : p.length <= c) (hn : At w v n) (hp : IL w w.heap.size A p) : Calls Tryz.prog 83 #[v, .slice A p.length c] w (kFo x y er w) := by
 have h := kKw (c := c) hl hc hn hp
 rw [hr, hy] at h
 exact h
theorem kMl {w : World} {v u : Value} {n m x : NT} {er : Int} {A : Option Addr} {p : List Int} {lp c : Nat} (hr : zGo n p m = (x, er)) (hlp : p.length = lp) (hl : lp <= 1000) (hc : lp <= c) (hn : At w v n) (hm : At w u m) (hp : IL w w.heap.size A p) (hbd : ∀ x, kB n (upP p) = some x -> x.ks.length < 1759218604441) : Calls Tryz.prog 84 #[v, .slice A lp c, u] w (zP2 (x, er) w) := by
 subst hlp; exact kKz hr hl hc hn hm hp hbd
theorem kMm {w : World} {v : Value} {n x y : NT} {er : Int} {A : Option Addr} {p : List Int} {lp c : Nat} (hr : zBw n p = (x, er)) (hy : zE3 n p = y) (hlp : p.length = lp) (hl : lp <= 1000) (hc : lp <= c) (hn : At w v n) (hp : IL w w.heap.size A p) : Calls Tryz.prog 83 #[v, .slice A lp c] w (kFo x y er w) := by
 subst hlp; exact kK0 hr hy hl hc hn hp
theorem kMn {w : World} {v : Value} {n x : NT} {er : Int} {A : Option Addr} {p : List Int} {lp c : Nat} (hr : zGm n p = (x, er)) (hlp : p.length = lp) (hl : lp <= 1000) (hn : At w v n) (hp : IL w w.heap.size A p) : Calls Tryz.prog 30 #[v, .slice A lp c] w (zP2 (x, er) w) := by
 subst hlp; exact kKx hr hl hn hp
end Go.Proofs.YtmkciabefepelaaGreat
namespace Go.Proofs.YtmkciabefepelaaGreat
open Go.RowKit
open Go.WideShapes (add_plain)
def zGg (us : List Value) : List Value := us.flatMap fun u => u.cells.toList
theorem zRu (us vs : List Value) : zGg (us ++ vs) = zGg us ++ zGg vs := zM9 us vs
structure zM1 (d : Nat) (w : World) (B : Nat) (us : List Value) (ks : List NT) : Prop where
 len : us.length = ks.length
 trees : ∀ (j : Nat) (m : NT), ks[j]? = some m -> ∃ u, us[j]? = some u /\ zV d w B u m
theorem zM1.append {d : Nat} {w : World} {B : Nat} {us vs : List Value} {ks ms : List NT} (h1 : zM1 d w B us ks) (h2 : zM1 d w B vs ms) : zM1 d w B (us ++ vs) (ks ++ ms) :=
 ⟨by rw [List.length_append, List.length_append, h1.len, h2.len], fun j m hj => by
  rcases Nat.lt_or_ge j ks.length with hjk | hjk
  ·rw [List.getElem?_append_left hjk] at hj
   obtain ⟨u, hu, ht⟩ := h1.trees j m hj
   exact ⟨u, by rw [List.getElem?_append_left (by rw [h1.len]; exact hjk)]; exact hu, ht⟩
  ·rw [List.getElem?_append_right hjk] at hj
   obtain ⟨u, hu, ht⟩ := h2.trees _ m hj
   exact ⟨u, by rw [List.getElem?_append_right (by rw [h1.len]; exact hjk), h1.len]; exact hu, ht⟩⟩
theorem zM1.below {d : Nat} {w w' : World} {B : Nat} {us : List Value} {ks : List NT} (h : zM1 d w B us ks) (hb : Below B w w') : zM1 d w' B us ks := ⟨h.len, fun j m hj => by
 obtain ⟨u, h1, h2⟩ := h.trees j m hj; exact ⟨u, h1, h2.below hb⟩⟩
theorem zM1.more {d : Nat} {w : World} {B B' : Nat} {us : List Value} {ks : List NT} (h : zM1 d w B us ks) (hb : B <= B') : zM1 d w B' us ks := ⟨h.len, fun j m hj => by
 obtain ⟨u, h1, h2⟩ := h.trees j m hj; exact ⟨u, h1, h2.more hb⟩⟩
theorem zM1.deep {d d' : Nat} {w : World} {B : Nat} {us : List Value} {ks : List NT} (h : zM1 d w B us ks) (hd : d <= d') : zM1 d' w B us ks := ⟨h.len, fun j m hj => by
 obtain ⟨u, h1, h2⟩ := h.trees j m hj; exact ⟨u, h1, h2.deep hd⟩⟩
theorem zM1.form {d : Nat} {w : World} {B : Nat} {us : List Value} {ks : List NT} (h : zM1 d w B us ks) : ∀ u ∈ us, ∃ lf PA np pc TA nt tc KA nk kc, u = .agg #[.bool lf, .slice PA np pc, .slice TA nt tc, .slice KA nk kc] := fun u hu => by
 obtain ⟨j, hj, rfl⟩ := List.mem_iff_getElem.1 hu
 obtain ⟨u', hu', ht⟩ := h.trees j _ (List.getElem?_eq_getElem (by rw [<- h.len]; exact hj))
 rw [List.getElem?_eq_getElem hj] at hu'
 injection hu' with hu'
 rw [hu']
 exact ht.val
theorem zM1.flat {d : Nat} {w : World} {B : Nat} {us : List Value} {ks : List NT} (h : zM1 d w B us ks) : (zGg us).length = ks.length * 4 /\ ∀ c ∈ zGg us, c.oneCell' = true := by
 have key := h.form
 constructor
 ·rw [<- h.len]
  have : ∀ l : List Value, (∀ u ∈ l, u.cells.toList.length = 4) -> (zGg l).length = l.length * 4 := by
   intro l
   induction l with
   | nil => intro _; rfl
   | cons x r ih => intro hx; show (zGg (x :: r)).length = _; rw [zGg, List.flatMap_cons, List.length_append, hx x (List.mem_cons_self ..), <- zGg, ih (fun u hu => hx u (List.mem_cons_of_mem _ hu)), List.length_cons]; omega
  exact this us fun u hu => by obtain ⟨_, _, _, _, _, _, _, _, _, _, rfl⟩ := key u hu; rfl
 ·intro c hc
  obtain ⟨u, hu, hcu⟩ := List.mem_flatMap.1 hc
  obtain ⟨_, _, _, _, _, _, _, _, _, _, rfl⟩ := key u hu
  simp [Value.cells] at hcu
  rcases hcu with rfl | rfl | rfl | rfl <;> rfl
theorem zKn.vals {d : Nat} {w : World} {B : Nat} {A : Option Addr} {ks : List NT} (h : zKn d w B A ks) : ∃ us, zM1 d w B us ks /\ VL w B A (zGg us) := by
 have hx : ∀ j : Fin ks.length, ∃ u, ∃ b o, A = some ⟨b, o, none⟩ /\ b < B /\ zV d w B u ks[j] /\ zK1 w b (o + j * 4) u := fun j => by
  obtain ⟨b, o, u, e, hb, hn, hc⟩ := h j ks[j] (List.getElem?_eq_getElem j.2)
  exact ⟨u, b, o, e, hb, hn, hc⟩
 obtain ⟨f, hf⟩ := Classical.axiomOfChoice hx
 have hv : zM1 d w B (List.ofFn f) ks := ⟨by simp, fun j m hj => by
  have hl := (List.getElem?_eq_some_iff.1 hj).1
  obtain ⟨b, o, _, _, hn, _⟩ := hf ⟨j, hl⟩
  have e : ks[j] = m := (List.getElem?_eq_some_iff.1 hj).2
  exact ⟨f ⟨j, hl⟩, by rw [List.getElem?_eq_getElem (by simpa using hl), List.getElem_ofFn], by rw [<- e]; exact hn⟩⟩
 refine ⟨_, hv, fun hne => ?_⟩
 have hlen := hv.flat.1
 have hpos : 0 < ks.length := by
  have : 0 < (zGg (List.ofFn f)).length := List.length_pos_iff.2 hne
  omega
 obtain ⟨b, o, e, hb, _, _⟩ := hf ⟨0, hpos⟩
 refine ⟨b, o, e, hb, fun q c hq => ?_⟩
 have hql : q < ks.length * 4 := by rw [<- hlen]; exact (List.getElem?_eq_some_iff.1 hq).1
 have hj : q / 4 < ks.length := by omega
 obtain ⟨b', o', e', _, hn, c0, c1, c2, c3, eu, h0, h1, h2, h3⟩ := hf ⟨q / 4, hj⟩
 rw [e] at e'
 injection e' with e'
 injection e' with e1 e2
 subst e1 e2
 have h4 : ∀ x ∈ List.ofFn f, x.cells.size = 4 := fun x hx => by obtain ⟨_, _, _, _, _, _, _, _, _, _, rfl⟩ := hv.form x hx; rfl
 have hu : (List.ofFn f)[q / 4]? = some (f ⟨q / 4, hj⟩) := by rw [List.getElem?_eq_getElem (by simpa using hj), List.getElem_ofFn]
 have hc := fun i c hi => zJ5 (List.ofFn f) (q / 4) _ c0 c1 c2 c3 h4 hu eu i c hi
 have hq' : (zGg (List.ofFn f))[q / 4 * 4 + q % 4]? = some c := by rw [show q / 4 * 4 + q % 4 = q by omega]; exact hq
 have ho : ∀ i, q % 4 = i -> o + q = o + q / 4 * 4 + i := fun i hi => by omega
 match hm : q % 4, Nat.mod_lt q (show 0 < 4 by omega) with
 | 0, _ => rw [hm] at hq'; have := (hc 0 c0 rfl).symm.trans hq'; injection this with this; subst this; rw [ho 0 hm]; exact h0
 | 1, _ => rw [hm] at hq'; have := (hc 1 c1 rfl).symm.trans hq'; injection this with this; subst this; rw [ho 1 hm]; exact h1
 | 2, _ => rw [hm] at hq'; have := (hc 2 c2 rfl).symm.trans hq'; injection this with this; subst this; rw [ho 2 hm]; exact h2
 | 3, _ => rw [hm] at hq'; have := (hc 3 c3 rfl).symm.trans hq'; injection this with this; subst this; rw [ho 3 hm]; exact h3
theorem kDy {w : World} {base d n c : Nat} {A : Option Addr} {us : List Value} {ks : List NT} (hown : w.ownsRow base 26 4 (.slice A n c) n (zGg us)) (hv : zM1 d w w.heap.size us ks) : zKn d w w.heap.size A ks := fun k m hm => by
 obtain ⟨u, hu, ht⟩ := hv.trees k m hm
 obtain ⟨lf, PA, np, pc, TA, nt, tc, KA, nk, kc, e⟩ := hv.form u (List.mem_of_getElem? hu)
 have h4 : ∀ x ∈ us, x.cells.size = 4 := fun x hx => by obtain ⟨_, _, _, _, _, _, _, _, _, _, rfl⟩ := hv.form x hx; rfl
 obtain ⟨A', c', e', _, _, hfree⟩ := zC9 hown
 injection e' with e1 _ _
 subst e1
 have hc := fun i c hi => hfree (k * 4 + i) c (zJ5 us k u _ _ _ _ h4 hu e i c hi)
 obtain ⟨g, hg, _, hgl, _⟩ := hc 0 _ rfl
 subst hg
 have hc' : ∀ i c, [Value.bool lf, .slice PA np pc, .slice TA nt tc, .slice KA nk kc][i]? = some c -> w.cell? ⟨g, 0 + k * 4 + i, none⟩ = some c := fun i c hi => by
  obtain ⟨g', e', _, _, h5, _⟩ := hc i c hi
  injection e' with e'
  injection e' with e'
  subst e'
  rw [Nat.zero_add]; exact h5
 exact ⟨g, 0, u, rfl, hgl, ht, _, _, _, _, e, hc' 0 _ rfl, hc' 1 _ rfl, hc' 2 _ rfl, hc' 3 _ rfl⟩
theorem kNt {ts te : TypeId} {size by_ : Nat} (E : zQ7 ts te size by_) (W : World) {ops : Array Oper} {rest : List Oper} {o : Oper} {a : Act} {Q : Exit -> Act -> World -> Prop} (hgd : o.guard = none) (s x : Operand)
  (ho : o.op = .call { callee := .builtin .append, args := #[s, x], argTypes := #[ts, ts] })
  (b : Nat) (hs : a.eval s = .slice none 0 0) (A : Option Addr) (m c B : Nat) (l : List Value) (hx : a.eval x = .slice A m c) (hn : l.length = m * size) (hp : VL W B A l) (h1 : ∀ u ∈ l, u.oneCell' = true)
  (h63 : m <= maxLen) (hby : m * by_ <= 140737488355328) (hb : b <= W.heap.size)
  (hK : ∀ A' c' w', w'.ownsRow b te size (.slice A' m c') m l -> Below W.heap.size W w' -> ((Value.slice A' m c').ownBlock = none ∨ ∃ g, (Value.slice A' m c').ownBlock = some g /\ W.heap.size <= g) -> wpList Tryz.prog ops Q rest (a.put o.dst (.slice A' m c')) w') :
  wpList Tryz.prog ops Q (o :: rest) a W := by
 refine zK7 E W hgd s x ho b (.slice none 0 0) 0 [] hs (World.ownsRow_nil _ _ _ _) A m c B l hx hn hp h1 (by rw [Nat.zero_add]; exact h63) (by rw [Nat.zero_add]; exact hby) hb (fun A' c' w' h1 h2 h3 => ?_)
 rw [Nat.zero_add, List.nil_append] at h1
 rw [Nat.zero_add] at h3 ⊢
 exact hK A' c' w' h1 (kOx h2) h3
theorem zIq {ts te : TypeId} {size by_ : Nat} (E : zQ7 ts te size by_) (W : World) {ops : Array Oper} {o : Oper} {a : Act} {K : Act -> World -> Prop} {Q : Exit -> Act -> World -> Prop} {F : Prop} (hgd : o.guard = none) (s x : Operand)
  (ho : o.op = .call { callee := .builtin .append, args := #[s, x], argTypes := #[ts, ts] })
  (b : Nat) (v : Value) (n : Nat) (k : List Value) (hs : a.eval s = v) (hO : W.ownsRow b te size v n k) (A : Option Addr) (m c B : Nat) (l : List Value) (hx : a.eval x = .slice A m c) (hn : l.length = m * size) (hp : VL W B A l) (h1 : ∀ u ∈ l, u.oneCell' = true)
  (h63 : n + m <= maxLen) (hby : (n + m) * by_ <= 140737488355328) (hb : b <= W.heap.size)
  (hK : ∀ A' c' w', w'.ownsRow b te size (.slice A' (n + m) c') (n + m) (k ++ l) -> W.grownBy w' v.ownBlock -> ((Value.slice A' (n + m) c').ownBlock = v.ownBlock ∨ ∃ g, (Value.slice A' (n + m) c').ownBlock = some g /\ W.heap.size <= g) -> K (a.put o.dst (.slice A' (n + m) c')) w') :
  if Region.wanted o (yielded ops a.tmps) = true then Oper.wp Tryz.prog o a W K Q else F := by
 have hw : Region.wanted o (yielded ops a.tmps) = true := by simp [Region.wanted, hgd]
 rw [if_pos hw]
 obtain ⟨i0, z, hi, hz0, hz1, hz2, hz3⟩ := E.info
 have hsz := E.pos
 rcases Nat.eq_zero_or_pos m with hm | hm
 ·subst hm
  have hl : l = [] := List.eq_nil_of_length_eq_zero (by simpa using hn)
  subst hl
  obtain ⟨A0, c0, rfl, _⟩ := zC9 hO
  have hrun := zEp (w := W) (ty := o.type) (A := A) (c := c) E.under hi hO
  unfold Oper.wp execOp
  simp only [ho, resolve, invoke, builtin, Sem.run_bind, Sem.run_pure, Result.andThen_ok, List.map_toArray, List.map_cons, List.map_nil, hs, hx, hrun]
  exact hK A0 c0 W (by simpa using hO) ⟨rfl, rfl, rfl, Nat.le_refl _, fun _ _ _ => rfl⟩ (.inl (by cases A0 <;> rfl))
 ·have hl : 0 < l.length := by have := Nat.mul_pos hm hsz; omega
  obtain ⟨b', o', rfl, _, hc⟩ := hp (List.length_pos_iff.1 hl)
  refine wp_append_lies W s x ts ho b te i0 z size by_ E.under hi hz0 hz1 hz2 hz3 hsz v n k hs hO ⟨b', o', none⟩ m c l hx hn (fun j u hj => by rw [add_plain]; exact hc j u hj) h1 hm h63 hby hb W.heap.size rfl (fun g cap w' h1 h2 h3 _ => hK _ cap w' h1 h2 ?_)
  rcases h3 with e | e
  ·exact .inl (by rw [e]; rfl)
  ·exact .inr ⟨g, rfl, by omega⟩
theorem kN8 {ts te : TypeId} {size by_ : Nat} (E : zQ7 ts te size by_) (W : World) {ops : Array Oper} {o : Oper} {a : Act} {K : Act -> World -> Prop} {Q : Exit -> Act -> World -> Prop} {F : Prop} (hgd : o.guard = none) (s x : Operand)
  (ho : o.op = .call { callee := .builtin .append, args := #[s, x], argTypes := #[ts, ts] })
  (b : Nat) (hs : a.eval s = .slice none 0 0) (A : Option Addr) (m c B : Nat) (l : List Value) (hx : a.eval x = .slice A m c) (hn : l.length = m * size) (hp : VL W B A l) (h1 : ∀ u ∈ l, u.oneCell' = true)
  (h63 : m <= maxLen) (hby : m * by_ <= 140737488355328) (hb : b <= W.heap.size)
  (hK : ∀ A' c' w', w'.ownsRow b te size (.slice A' m c') m l -> Below W.heap.size W w' -> ((Value.slice A' m c').ownBlock = none ∨ ∃ g, (Value.slice A' m c').ownBlock = some g /\ W.heap.size <= g) -> K (a.put o.dst (.slice A' m c')) w') :
  if Region.wanted o (yielded ops a.tmps) = true then Oper.wp Tryz.prog o a W K Q else F := by
 refine zIq E W hgd s x ho b (.slice none 0 0) 0 [] hs (World.ownsRow_nil _ _ _ _) A m c B l hx hn hp h1 (by rw [Nat.zero_add]; exact h63) (by rw [Nat.zero_add]; exact hby) hb (fun A' c' w' h1 h2 h3 => ?_)
 rw [Nat.zero_add, List.nil_append] at h1
 rw [Nat.zero_add] at h3 ⊢
 exact hK A' c' w' h1 (kOx h2) h3
theorem kAj {ks : List NT} {k : Nat} {m : NT} (h : ks[k]? = some m) : sizeT m <= sizeK ks := by
 have e : sizeK ks = sizeK (ks.take k) + sizeK (ks.drop k) := by rw [<- kZ, List.take_append_drop]
 rw [zCo h] at e
 simp only [sizeK] at e
 omega
theorem kN7 (l : List Int) : ∀ u ∈ l.map (Value.int .i64), u.oneCell' = true := fun u hu => by
 obtain ⟨x, _, rfl⟩ := List.mem_map.1 hu
 rfl
end Go.Proofs.YtmkciabefepelaaGreat
