/- Put: the closure, and the call. -/
import Derived.Test.YtmkciabefepelaaGreatTChange
set_option maxRecDepth 4000
set_option maxHeartbeats 8000000
namespace Go.Proofs.YtmkciabefepelaaGreat
open Go.RowKit
theorem zP2.of_newO {g : Nat} {r : NT × Int} {w w' : World} {e : Ending} (h : kEz g r none w e w') : zP2 r w e w' := by
 obtain ⟨v, d, h1, h2, h3, h4⟩ := h
 exact ⟨v, d, h1, h2, h3.drop h4⟩
def zTo (b g d : Nat) (n : NT) (w : World) : Prop := ∃ lf PA np pc TA nt tc KA nk kc, w.heap[b]? = some (.cells #[.bool lf, .slice PA np pc, .slice TA nt tc, .slice KA nk kc] 26 (0, 0)) /\ zV d w g (.agg #[.bool lf, .slice PA np pc, .slice TA nt tc, .slice KA nk kc]) n
theorem zTo.later {b g d : Nat} {n : NT} {w w' : World} (h : zTo b g d n w) (hg : g <= w.heap.size) (hb : Below w.heap.size w w') : zTo b g d n w' := by
 obtain ⟨lf, PA, np, pc, TA, nt, tc, KA, nk, kc, h1, h2⟩ := h
 exact ⟨lf, PA, np, pc, TA, nt, tc, KA, nk, kc, kI h1 hb, h2.below (hb.mono hg)⟩
set_option maxRecDepth 100000 in
theorem zTp (mb g dm : Nat) (m : NT) (d : Nat) (w : World) (v : Value) (n : NT) (hn : zV d w g v n) (hg : g < w.heap.size) (hC : zTo mb g dm m w) :
  Calls Tryz.prog 158 #[v, .pointer (some ⟨mb, 0, none⟩)] w (kEz g (kHx m n) none w) := by
 obtain ⟨lf, PA, np, pc, TA, nt, tc, KA, nk, kc, rfl⟩ := hn.val
 obtain ⟨lf1, PA1, np1, pc1, TA1, nt1, tc1, KA1, nk1, kc1, hm1, hm2⟩ := hC
 obtain ⟨wb, hwb⟩ : ∃ wb, wb = (w.alloc (.cells #[.bool lf, .slice PA np pc, .slice TA nt tc, .slice KA nk kc] 26)).alloc (.cells #[.bool false, .slice none 0 0, .slice none 0 0, .slice none 0 0] 26) := ⟨_, rfl⟩
 have hb0 : Below w.heap.size w wb := hwb ▸ kM (Below.refl _ _) (Nat.le_refl _)
 have hsb : wb.heap.size = w.heap.size + 2 := by rw [hwb]; simp
 have htb : wb.heap[w.heap.size + 1]? = some (.cells #[.bool false, .slice none 0 0, .slice none 0 0, .slice none 0 0] 26 (0, 0)) := hwb ▸ (zBj w _ _ _ _ _ _ _ _ _ _).2
 obtain ⟨y0, y1, y2, y3, _, _, _, _⟩ := zJ (kI hm1 hb0)
 have HCP := hd (zEy dm wb _ m ((hm2.below (hb0.mono (by omega))).more (by omega)))
 have HB := hd hb0
 have HS := hd hsb
 have HTB := hd htb
 have hmb := lt_of_block hm1
 clear hn hm1 hm2 hb0 hsb htb
 go_enter Tryz.func158, Tryz.ntmps158
 subst hwb
 go_wp2_with (first | (go_at_call 75; refine HCP.out.mono ?_; intro e w1 h1; obtain ⟨v1, rfl, ht1, hb1⟩ := h1; obtain ⟨lf4, PA4, np4, pc4, TA4, nt4, tc4, KA4, nk4, kc4, rfl⟩ := (ht1.at_ (B := w1.heap.size) (fun b hb => hb.2)).val; have HR1 := hd (kI HTB.out hb1); obtain ⟨r0, r1, r2, r3, r4, r5, r6, r7⟩ := zJ HR1.out; have HT1 := hd ht1; have HB1 := hd hb1; have hz1 := hb1.size; rw [HS.out] at hz1; clear ht1 hb1))
 have h7 := kD (a := .bool lf4) (b := .slice PA4 np4 pc4) (c := .slice TA4 nt4 tc4) (d := .slice KA4 nk4 kc4) HR1.out
 obtain ⟨t0, t1, t2, t3, _, _, _, _⟩ := zJ h7
 have hS := HS.out
 have hW : Below w.heap.size w w1 := HB.out.trans (HB1.out.mono (by omega))
 refine bodyPost_ret (v := .tuple #[.agg #[.bool lf4, .slice PA4 np4 pc4, .slice TA4 nt4 tc4, .slice KA4 nk4 kc4], .int .i64 0]) (by simp [results, Tryz.results158, go_sem, t0, t1, t2, t3]) rfl (zB0 (r := kHx m n) rfl (HT1.out.block_keep (fun b h1 h2 => by rw [jK]; omega) (fun b h1 h2 => zT (by omega))) ((Off.of_below hW).set4 (.inl (by omega))) ?_)
 exact (zT (by omega)).trans (hW.block g hg)
theorem kHv (mb g dm : Nat) (m : NT) : kBk 158 (.pointer (some ⟨mb, 0, none⟩)) g (kHx m) (fun _ => none) (fun w => zTo mb g dm m w /\ g <= w.heap.size) (fun _ => True) :=
 ⟨enters_of Tryz.func158 (by kernel_rfl) rfl, fun w w' h hb => ⟨h.1.later h.2 hb, Nat.le_trans h.2 hb.size⟩, fun d w v n hn hg hC _ => zTp mb g dm m d w v n hn hg hC.1⟩
theorem zRx {α β : Type} (o : Option α) : o.bind (fun _ => (none : Option β)) = none := by cases o <;> rfl
set_option maxRecDepth 100000 in
theorem kDz (d dm : Nat) (w : World) (v u : Value) (n m : NT) (A : Option Addr) (p : List Int) (lp c : Nat) (hlp : p.length = lp) (hl : lp <= 1000000) (hc : lp <= c) (hn : zV d w w.heap.size v n) (hm : zV dm w w.heap.size u m) (hp : IL w w.heap.size A p) :
  Calls Tryz.prog 128 #[v, .slice A lp c, u] w (zP2 (zSe n p m) w) := by
 obtain ⟨lf, PA, np, pc, TA, nt, tc, KA, nk, kc, rfl⟩ := hn.val
 obtain ⟨lf1, PA1, np1, pc1, TA1, nt1, tc1, KA1, nk1, kc1, rfl⟩ := hm.val
 obtain ⟨wb, hwb⟩ : ∃ wb, wb = ((w.alloc (.cells #[.bool lf, .slice PA np pc, .slice TA nt tc, .slice KA nk kc] 26)).alloc (.cells #[.bool lf1, .slice PA1 np1 pc1, .slice TA1 nt1 tc1, .slice KA1 nk1 kc1] 26)).alloc (.cells #[.bool false, .slice none 0 0, .slice none 0 0, .slice none 0 0] 26) := ⟨_, rfl⟩
 have hb0 : Below w.heap.size w wb := hwb ▸ (kM (Below.refl _ _) (Nat.le_refl _)).alloc (by simp; omega) _
 have hsb : wb.heap.size = w.heap.size + 3 := by rw [hwb]; simp
 have hmb : wb.heap[w.heap.size + 1]? = some (.cells #[.bool lf1, .slice PA1 np1 pc1, .slice TA1 nt1 tc1, .slice KA1 nk1 kc1] 26 (0, 0)) := by
  rw [hwb, Below.heap_alloc _ _ _ (by simp)]; exact (zBj w _ _ _ _ _ _ _ _ _ _).2
 have hrb : wb.heap[w.heap.size + 2]? = some (.cells #[.bool false, .slice none 0 0, .slice none 0 0, .slice none 0 0] 26 (0, 0)) := by
  rw [hwb]
  have e : ∀ (A B : Obj), w.heap.size + 2 = ((w.alloc A).alloc B).heap.size := fun A B => by simp
  rw [e]; exact heap_alloc_new _ _
 have HC := hd (zT2 (kHv (w.heap.size + 1) w.heap.size dm m) p d wb _ n A lp c hlp hl hc (by omega) ⟨⟨_, _, _, _, _, _, _, _, _, _, hmb, hm.below hb0⟩, by omega⟩ (hn.below hb0) ((hp.below hb0).more (by omega)) (zVg hp (Nat.le_refl _)) (fun _ _ => trivial))
 rw [zRx] at HC
 have HB := hd hb0
 have HS := hd hsb
 have HRB := hd hrb
 obtain ⟨FR, hFR⟩ : ∃ FR, FR = zIf (kHx m) n p := ⟨_, rfl⟩
 rw [<- hFR] at HC
 have HF := hd (show zSe n p m = FR from hFR.symm)
 obtain ⟨F1, F2⟩ := FR
 clear hn hm hp hb0 hsb hmb hrb hFR hlp
 go_enter Tryz.func128, Tryz.ntmps128
 subst hwb
 go_wp2_with (first | (go_at_call 130; refine HC.out.mono ?_; intro e w1 h1; obtain ⟨v1, d1, rfl, ht1, hb1⟩ := zP2.of_newO h1; obtain ⟨lf4, PA4, np4, pc4, TA4, nt4, tc4, KA4, nk4, kc4, rfl⟩ := (ht1.at_ (B := w1.heap.size) (fun b hb => hb.2)).val; have HR1 := hd (kI HRB.out hb1); obtain ⟨r0, r1, r2, r3, r4, r5, r6, r7⟩ := zJ HR1.out; have HT1 := hd ht1; have HB1 := hd hb1; have hz1 := hb1.size; rw [HS.out] at hz1; clear ht1 hb1 h1))
 have h7 := kD (a := .bool lf4) (b := .slice PA4 np4 pc4) (c := .slice TA4 nt4 tc4) (d := .slice KA4 nk4 kc4) HR1.out
 obtain ⟨t0, t1, t2, t3, _, _, _, _⟩ := zJ h7
 have hS := HS.out
 have hW : Below w.heap.size w w1 := HB.out.trans (HB1.out.mono (by omega))
 refine bodyPost_ret (v := .tuple #[.agg #[.bool lf4, .slice PA4 np4 pc4, .slice TA4 nt4 tc4, .slice KA4 nk4 kc4], .int .i64 F2]) (by simp [results, Tryz.results128, go_sem, t0, t1, t2, t3]) rfl (zJv HF.out (HT1.out.block_keep (fun b h1 h2 => by rw [jK]; omega) (fun b h1 h2 => zT (by omega))) (Below.set4 hW (by omega)))
def zW1 (b : Nat) (i : Int) (w : World) : Prop := w.heap[b]? = some (.cells #[.int .i64 i] 3 (0, 0))
theorem zLk {b : Nat} {i : Int} {w : World} (h : zW1 b i w) : w.cell? ⟨b, 0, none⟩ = some (.int .i64 i) := by simp [World.cell?, show w.heap[b]? = _ from h]
theorem zW2 {Q : Nat -> Prop} {d : Nat} {w3 : World} {c0 c1 c2 c3 : Value} {m : NT} (t : TypeId) (ht : zAx Q d w3 (.agg #[c0, c1, c2, c3]) m) (hQ : ∀ b, Q b -> b < w3.heap.size) : zGi Q d (w3.alloc (.cells #[c0, c1, c2, c3] t)) (some ⟨w3.heap.size, 0, none⟩) [.agg #[c0, c1, c2, c3]] [m] := by
 have hb : Below w3.heap.size w3 (w3.alloc (.cells #[c0, c1, c2, c3] t)) := (Below.refl _ _).alloc (Nat.le_refl _) _
 refine ⟨rfl, ?_, fun q x hx => ?_⟩
 ·have := zYo w3 t [c0, c1, c2, c3]
  rw [<- show (w3.alloc (.cells #[c0, c1, c2, c3] t)).heap.size = w3.heap.size + 1 by simp] at this
  simpa [Value.cells] using this
 ·cases q with
  | zero =>
   simp only [List.getElem?_cons_zero, Option.some.injEq] at hx
   subst hx
   exact ⟨_, rfl, ht.keep (fun _ h => h) (fun p hp => ⟨hb.cell (hQ _ hp), hb.frozen (hQ _ hp)⟩)⟩
  | succ q => simp at hx
theorem zGi.deep {Q : Nat -> Prop} {d d' : Nat} {w : World} {OA : Option Addr} {us : List Value} {os : List NT} (h : zGi Q d w OA us os) (hd : d <= d') : zGi Q d' w OA us os :=
 ⟨h.len, h.cells, fun j m hm => by
  obtain ⟨u, h1, h2⟩ := h.trees j m hm
  exact ⟨u, h1, h2.deep hd⟩⟩
theorem kP9 {P : Prop} (h : P := by
 go_enter Tryz.func133, Tryz.ntmps133
 subst hwb
 go_wp2
 exact bodyPost_ret (v := .tuple #[.agg #[.bool false, .slice none 0 0, .slice none 0 0, .slice none 0 0], .int .i64 8]) (by simp [results, Tryz.results133, go_sem, r0, r1, r2, r3]) rfl (zB0 HF.out (zBs _ 0 _) (Off.of_below HB.out) (HB.out.block g hg))) : P := h
set_option maxRecDepth 100000 in
theorem zTq (ib mb g dm : Nat) (i : Int) (m : NT) (d : Nat) (w : World) (v : Value) (n : NT) (hn : zV d w g v n) (hg : g < w.heap.size) (hC : zTo mb g dm m w) (hI : zW1 ib i w) (hbd : n.ks.length < 1759218604441) :
  Calls Tryz.prog 133 #[v, .pointer (some ⟨ib, 0, none⟩), .pointer (some ⟨mb, 0, none⟩)] w (kEz g (zGn i m n) none w) := by
 obtain ⟨d', lf, ps, tx, ks, PA, pc, TA, tc, KA, kc, hd', hn', rfl, hps, htx, hf, hks⟩ := hn.open_
 obtain ⟨lf1, PA1, np1, pc1, TA1, nt1, tc1, KA1, nk1, kc1, hm1, hm2⟩ := hC
 obtain ⟨wb, hwb⟩ : ∃ wb, wb = (w.alloc (.cells #[.bool lf, .slice PA ps.length pc, .slice TA tx.length tc, .slice KA ks.length kc] 26)).alloc (.cells #[.bool false, .slice none 0 0, .slice none 0 0, .slice none 0 0] 26) := ⟨_, rfl⟩
 have hb0 : Below w.heap.size w wb := hwb ▸ kM (Below.refl _ _) (Nat.le_refl _)
 have hsb : wb.heap.size = w.heap.size + 2 := by rw [hwb]; simp
 have htb : wb.heap[w.heap.size]? = some (.cells #[.bool lf, .slice PA ps.length pc, .slice TA tx.length tc, .slice KA ks.length kc] 26 (0, 0)) /\ wb.heap[w.heap.size + 1]? = some (.cells #[.bool false, .slice none 0 0, .slice none 0 0, .slice none 0 0] 26 (0, 0)) := hwb ▸ zBj w _ _ _ _ _ _ _ _ _ _
 have hib : wb.cell? ⟨ib, 0, none⟩ = some (.int .i64 i) := zLk (kI hI hb0)
 have hibl := lt_of_block hI
 have hmb := lt_of_block hm1
 have hmb0 := kI hm1 hb0
 obtain ⟨y0, y1, y2, y3, _, _, _, _⟩ := zJ hmb0
 obtain ⟨x0, x1, x2, x3, _, _, _, _⟩ := zJ htb.1
 obtain ⟨r0, r1, r2, r3, r4, r5, r6, r7⟩ := zJ htb.2
 have hl3 := hf.2.2.2.1
 have HB := hd hb0
 have HS := hd hsb
 have HTB := hd htb
 have HN := hd hn
 have HM := hd hm2
 have HN' := hd hn'
 have HBD := hd hbd
 clear hn hm1 hm2 hmb0 hb0 hsb htb hps htx hf hks hd' hn' hI hbd
 have hS := HS.out
 have hcases : lf = true ∨ lf = false /\ (i < 0 ∨ 0 <= i /\ (ks.length : Int) < i ∨ 0 <= i /\ i <= ks.length) := by
  cases lf
  ·exact .inr ⟨rfl, by omega⟩
  ·exact .inl rfl
 rcases hcases with rfl | ⟨rfl, h1 | ⟨h1, h2⟩ | ⟨h1, h2⟩⟩
 ·have HF := hd (show zGn i m n = (zeroT, 7) by unfold zGn; rw [HN'.out]; rfl)
  go_enter Tryz.func133, Tryz.ntmps133
  subst hwb
  go_wp2
  exact bodyPost_ret (v := .tuple #[.agg #[.bool false, .slice none 0 0, .slice none 0 0, .slice none 0 0], .int .i64 7]) (by simp [results, Tryz.results133, go_sem, r0, r1, r2, r3]) rfl (zB0 HF.out (zBs _ 0 _) (Off.of_below HB.out) (HB.out.block g hg))
 ·have HF := hd (show zGn i m n = (zeroT, 8) by unfold zGn; rw [HN'.out]; show (if (false = true) then _ else _) = _; rw [if_neg (by simp), if_pos (.inl h1)])
  exact kP9
 ·have HF := hd (show zGn i m n = (zeroT, 8) by unfold zGn; rw [HN'.out]; show (if (false = true) then _ else _) = _; rw [if_neg (by simp), if_pos (.inr h2)])
  have h3 : decide (i < 0) = false := decide_eq_false (by omega)
  exact kP9
 ·obtain ⟨j, hj⟩ : ∃ j : Nat, i = (j : Int) := ⟨i.toNat, by omega⟩
  subst hj
  have hj2 : j <= ks.length := by omega
  have h3 : decide ((j : Int) < 0) = false := decide_eq_false (by omega)
  have h4 : decide (ks.length < j) = false := decide_eq_false (by omega)
  have HF := hd (show zGn (j : Int) m n = (jS n j 0 [m], 0) by unfold zGn; rw [HN'.out]; show (if (false = true) then _ else _) = _; rw [if_neg (by simp), if_neg (by show ¬ ((j : Int) < 0 ∨ (ks.length : Int) < j); omega)]; rfl)
  have HCP := fun (W : World) (hb : Below wb.heap.size wb W) => hd (zEy dm W _ m (((HM.out.below (HB.out.mono (by omega))).below (hb.mono (by omega))).more (by have := hb.size; omega)))
  have HMK := hd (show ∀ W, Below (w.heap.size + 1) wb W -> (Below (w.heap.size + 1) wb W /\ W.cell? ⟨w.heap.size, 0, none⟩ = some (.bool false) /\ W.cell? ⟨w.heap.size, 1, none⟩ = some (.slice PA ps.length pc) /\ W.cell? ⟨w.heap.size, 2, none⟩ = some (.slice TA tx.length tc) /\ W.cell? ⟨w.heap.size, 3, none⟩ = some (.slice KA ks.length kc) /\ W.cell? ⟨ib, 0, none⟩ = some (.int .i64 j) /\ W.cell? ⟨mb, 0, none⟩ = some (.bool lf1) /\ W.cell? ⟨mb, 1, none⟩ = some (.slice PA1 np1 pc1) /\ W.cell? ⟨mb, 2, none⟩ = some (.slice TA1 nt1 tc1) /\ W.cell? ⟨mb, 3, none⟩ = some (.slice KA1 nk1 kc1)) from fun W h =>
   ⟨h, (h.cell (p := ⟨w.heap.size, 0, none⟩) (by show w.heap.size < _; omega)).trans x0, (h.cell (p := ⟨w.heap.size, 1, none⟩) (by show w.heap.size < _; omega)).trans x1, (h.cell (p := ⟨w.heap.size, 2, none⟩) (by show w.heap.size < _; omega)).trans x2, (h.cell (p := ⟨w.heap.size, 3, none⟩) (by show w.heap.size < _; omega)).trans x3, (h.cell (p := ⟨ib, 0, none⟩) (by show ib < _; omega)).trans hib, (h.cell (p := ⟨mb, 0, none⟩) (by show mb < _; omega)).trans y0, (h.cell (p := ⟨mb, 1, none⟩) (by show mb < _; omega)).trans y1, (h.cell (p := ⟨mb, 2, none⟩) (by show mb < _; omega)).trans y2, (h.cell (p := ⟨mb, 3, none⟩) (by show mb < _; omega)).trans y3⟩)
  have HSP := fun (dc : Nat) (Q : Nat -> Prop) (W : World) (hb : Below wb.heap.size wb W) (hQ : ∀ b, Q b -> b < W.heap.size) (OA : Option Addr) (us : List Value) (hO : zGi Q (max d dc) W OA us [m]) => hd (zIe Q (max d dc) W hQ _ n j 0 1 1 (j : Int) 0 rfl rfl OA us [m] ((((HN.out.below (HB.out.mono (by omega))).below (hb.mono (by omega))).more (by have := hb.size; omega)).deep (Nat.le_max_left _ _)) hO rfl (by rw [HN'.out]; show j + 0 <= ks.length; omega) (by have := HBD.out; omega))
  go_enter Tryz.func133, Tryz.ntmps133
  subst hwb
  have HSa := hd (HMK.out (World.drew _) (Below.refl _ _).drew)
  obtain ⟨wb0, hwb0⟩ : ∃ wb0, wb0 = ((w.alloc (.cells #[.bool false, .slice PA ps.length pc, .slice TA tx.length tc, .slice KA ks.length kc] 26)).alloc (.cells #[.bool false, .slice none 0 0, .slice none 0 0, .slice none 0 0] 26)) := ⟨_, rfl⟩
  have hS0 : wb0.heap.size = w.heap.size + 2 := by rw [hwb0]; exact hS
  have HWB0 := hd hwb0
  clear hwb0
  go_wp2_with fail
  go_region_held3 (fun W => Below (w.heap.size + 1) ((w.alloc (.cells #[.bool false, .slice PA ps.length pc, .slice TA tx.length tc, .slice KA ks.length kc] 26)).alloc (.cells #[.bool false, .slice none 0 0, .slice none 0 0, .slice none 0 0] 26)) W /\ W.cell? ⟨w.heap.size, 0, none⟩ = some (.bool false) /\ W.cell? ⟨w.heap.size, 1, none⟩ = some (.slice PA ps.length pc) /\ W.cell? ⟨w.heap.size, 2, none⟩ = some (.slice TA tx.length tc) /\ W.cell? ⟨w.heap.size, 3, none⟩ = some (.slice KA ks.length kc) /\ W.cell? ⟨ib, 0, none⟩ = some (.int .i64 j) /\ W.cell? ⟨mb, 0, none⟩ = some (.bool lf1) /\ W.cell? ⟨mb, 1, none⟩ = some (.slice PA1 np1 pc1) /\ W.cell? ⟨mb, 2, none⟩ = some (.slice TA1 nt1 tc1) /\ W.cell? ⟨mb, 3, none⟩ = some (.slice KA1 nk1 kc1))
   (first
    | (with_reducible exact HS10)
    | (with_reducible exact HS9)
    | (with_reducible exact HSr)
    | (with_reducible exact HSc)
    | (with_reducible exact HSa.out))
   (first
    | (go_at_call 75; refine Calls.mono (HCP _ ?hh).out ?_; (case hh => exact (Below.refl _ _).drew); intro e w3 h3; obtain ⟨v3, rfl, ht3, hb3⟩ := h3; obtain ⟨lf4, PA4, np4, pc4, TA4, nt4, tc4, KA4, nk4, kc4, rfl⟩ := (ht3.at_ (B := w3.heap.size) (fun b hb => hb.2)).val; have hbc : Below wb0.heap.size wb0 w3 := (by rw [HWB0.out]; exact (Below.refl _ _).drew.trans hb3); have hz3 := hbc.size; have HSc := HMK.out w3 (HWB0.out ▸ hbc.mono (by omega)); have hbr := hbc.alloc hbc.size (.cells #[.bool lf4, .slice PA4 np4 pc4, .slice TA4 nt4 tc4, .slice KA4 nk4 kc4] 26); have HSr := HMK.out (w3.alloc (.cells #[.bool lf4, .slice PA4 np4 pc4, .slice TA4 nt4 tc4, .slice KA4 nk4 kc4] 26)) (HWB0.out ▸ hbr.mono (by omega)); have HSP1 := HSP dm _ _ (HWB0.out ▸ hbr) (fun b hb => by simp; exact Nat.lt_succ_of_lt hb.2) _ _ ((zW2 26 ht3 (fun b hb => hb.2)).deep (Nat.le_max_right _ _)); have HBR := hd hbr; clear ht3 hb3 hbc hbr)
    | (go_at_call 132; refine HSP1.out.mono ?_; intro e w9 h9; obtain ⟨v9, rfl, ht9, hb9⟩ := h9; obtain ⟨lf9, PA9, np9, pc9, TA9, nt9, tc9, KA9, nk9, kc9, rfl⟩ := (ht9.at_ (B := w9.heap.size) (fun b hb => hb.2)).val; have hb19 : Below wb0.heap.size wb0 w9 := HBR.out.trans (hb9.mono HBR.out.size); have hz9 := hb19.size; have HR9 := hd (show w9.heap[w.heap.size + 1]? = some (.cells #[.bool false, .slice none 0 0, .slice none 0 0, .slice none 0 0] 26 (0, 0)) from (hb19.block _ (by omega)).trans (HWB0.out ▸ HTB.out.2)); obtain ⟨q0, q1, q2, q3, q4, q5, q6, q7⟩ := zJ HR9.out; have HS9 := HMK.out w9 (HWB0.out ▸ hb19.mono (by omega)); have HS10 := HMK.out _ (HWB0.out ▸ Below.set4 (k := w.heap.size + 1) (a := .bool lf9) (b := .slice PA9 np9 pc9) (c := .slice TA9 nt9 tc9) (d := .slice KA9 nk9 kc9) (hb19.mono (B' := w.heap.size + 1) (by omega)) (Nat.le_refl _)); have HT9 := hd ht9; have HB9 := hd hb19; clear ht9 hb9 hb19))
  go_wp2
  have h7 := kD (a := .bool lf9) (b := .slice PA9 np9 pc9) (c := .slice TA9 nt9 tc9) (d := .slice KA9 nk9 kc9) HR9.out
  obtain ⟨t0, t1, t2, t3, _, _, _, _⟩ := zJ h7
  have hW : Below w.heap.size w w9 := HB.out.trans (HWB0.out ▸ HB9.out.mono (by omega))
  refine bodyPost_ret (v := .tuple #[.agg #[.bool lf9, .slice PA9 np9 pc9, .slice TA9 nt9 tc9, .slice KA9 nk9 kc9], .int .i64 0]) (by simp [results, Tryz.results133, go_sem, t0, t1, t2, t3]) rfl (zB0 HF.out (HT9.out.keep (fun b hb => ?_) (fun p hp => ?_)) ((Off.of_below hW).set4 (.inl (by omega))) ?_)
  ·rw [jK]
   refine ⟨?_, hb.2⟩
   rcases hb.1 with h | h
   ·have := h.1; have e := HWB0.out ▸ hS0; show w.heap.size <= b; simp at h; omega
   ·simp at h; omega
  ·have hne : p.block ≠ w.heap.size + 1 := by
    rcases hp.1 with h | h
    ·simp at h; omega
    ·simp at h; omega
   exact ⟨World.cell?_of_block (zT hne), World.frozen?_of_block (zT hne)⟩
  ·exact (zT (by omega)).trans (hW.block g hg)
theorem kHw (ib mb g dm : Nat) (i : Int) (m : NT) : zT1 133 (.pointer (some ⟨ib, 0, none⟩)) (.pointer (some ⟨mb, 0, none⟩)) g (zGn i m) (fun _ => none) (fun w => zTo mb g dm m w /\ g <= w.heap.size /\ zW1 ib i w) (fun n => n.ks.length < 1759218604441) :=
 ⟨enters_of Tryz.func133 (by kernel_rfl) rfl, fun w w' h hb => ⟨h.1.later h.2.1 hb, Nat.le_trans h.2.1 hb.size, kI h.2.2 hb⟩, fun d w v n hn hg hC hp => zTq ib mb g dm i m d w v n hn hg hC.1 hC.2.2 hp⟩
theorem zOe {p : List Int} (h : p.length = 0) : zGq p = ([], 6) := by unfold zGq; rw [if_pos h]
theorem zM3 {p : List Int} {k : Nat} (h : p.length = k + 1) : zGq p = (p.take k, 0) /\ upP p = p.take k /\ lastL p = iAt p k := by
 refine ⟨by unfold zGq; rw [if_neg (by omega), h]; rfl, by unfold upP; rw [h]; rfl, by unfold lastL; rw [h]; rfl⟩
set_option maxRecDepth 100000 in
theorem kD0 (d dm : Nat) (w : World) (v u : Value) (n m : NT) (A : Option Addr) (p : List Int) (lp c : Nat) (hlp : p.length = lp) (hl : lp <= 1000) (hc : lp <= c) (hn : zV d w w.heap.size v n) (hm : zV dm w w.heap.size u m) (hp : IL w w.heap.size A p) (hbd : ∀ x, kB n (upP p) = some x -> x.ks.length < 1759218604441) :
  Calls Tryz.prog 84 #[v, .slice A lp c, u] w (zP2 (zGo n p m) w) := by
 obtain ⟨lf, PA, np, pc, TA, nt, tc, KA, nk, kc, rfl⟩ := hn.val
 obtain ⟨lf1, PA1, np1, pc1, TA1, nt1, tc1, KA1, nk1, kc1, rfl⟩ := hm.val
 obtain ⟨wb, hwb⟩ : ∃ wb, wb = ((w.alloc (.cells #[.bool lf, .slice PA np pc, .slice TA nt tc, .slice KA nk kc] 26)).alloc (.cells #[.bool lf1, .slice PA1 np1 pc1, .slice TA1 nt1 tc1, .slice KA1 nk1 kc1] 26)).alloc (.cells #[.bool false, .slice none 0 0, .slice none 0 0, .slice none 0 0] 26) := ⟨_, rfl⟩
 have hb0 : Below w.heap.size w wb := hwb ▸ (kM (Below.refl _ _) (Nat.le_refl _)).alloc (by simp; omega) _
 have hsb : wb.heap.size = w.heap.size + 3 := by rw [hwb]; simp
 have hnb : wb.heap[w.heap.size]? = some (.cells #[.bool lf, .slice PA np pc, .slice TA nt tc, .slice KA nk kc] 26 (0, 0)) := by
  rw [hwb, Below.heap_alloc _ _ _ (by simp; omega)]; exact (zBj w _ _ _ _ _ _ _ _ _ _).1
 have hmb : wb.heap[w.heap.size + 1]? = some (.cells #[.bool lf1, .slice PA1 np1 pc1, .slice TA1 nt1 tc1, .slice KA1 nk1 kc1] 26 (0, 0)) := by
  rw [hwb, Below.heap_alloc _ _ _ (by simp)]; exact (zBj w _ _ _ _ _ _ _ _ _ _).2
 have hrb : wb.heap[w.heap.size + 2]? = some (.cells #[.bool false, .slice none 0 0, .slice none 0 0, .slice none 0 0] 26 (0, 0)) := by
  rw [hwb]
  have e : ∀ (A B : Obj), w.heap.size + 2 = ((w.alloc A).alloc B).heap.size := fun A B => by simp
  rw [e]; exact heap_alloc_new _ _
 have HPR := hd (zNx A p lp c wb hlp hl hc ((hp.below hb0).more (by omega)))
 have HB := hd hb0
 have HS := hd hsb
 have HRB := hd hrb
 have HMB := hd hmb
 have HNB := hd hnb
 rcases lp with _ | k
 ·have HF := hd (show zGo n p m = (zeroT, 6) by unfold zGo; rw [if_pos hlp])
  rw [zOe hlp] at HPR
  clear hn hm hp hb0 hsb hmb hrb hnb hlp hbd
  go_enter Tryz.func84, Tryz.ntmps84
  subst hwb
  go_wp2_with (first | (go_at_call 129; refine HPR.out.mono ?_; intro e w1 h1; obtain ⟨v1, rfl, ho1, hb1⟩ := h1; have HR1 := hd (kI HRB.out hb1); obtain ⟨r0, r1, r2, r3, r4, r5, r6, r7⟩ := zJ HR1.out; have HB1 := hd hb1; have hz1 := hb1.size; rw [HS.out] at hz1; clear ho1 hb1))
  have h7 := kD (a := .bool false) (b := .slice none 0 0) (c := .slice none 0 0) (d := .slice none 0 0) HR1.out
  obtain ⟨t0, t1, t2, t3, _, _, _, _⟩ := zJ h7
  have hS := HS.out
  have hW : Below w.heap.size w w1 := HB.out.trans (HB1.out.mono (by omega))
  exact bodyPost_ret (v := .tuple #[.agg #[.bool false, .slice none 0 0, .slice none 0 0, .slice none 0 0], .int .i64 6]) (by simp [results, Tryz.results84, go_sem, t0, t1, t2, t3]) rfl (zJv HF.out (zBs _ 0 _) (Below.set4 hW (by omega)))
 ·obtain ⟨hpar, hup, hlast⟩ := zM3 hlp
  rw [hpar] at HPR
  obtain ⟨b, o, rfl, hbl, hc0⟩ := hp.at_ (k := k) (by omega)
  have HC0 := hd hc0
  have HF := hd (show zGo n p m = zIf (zGn (iAt p k) m) n (p.take k) by unfold zGo; rw [if_neg (by omega), hup, hlast])
  obtain ⟨i, hi⟩ : ∃ i, i = iAt p k := ⟨_, rfl⟩
  rw [<- hi] at hc0 HF
  have HC0 := hd hc0
  have HCH := hd (fun (w1 : World) (v1 : Value) (ho1 : zBt w1 wb.heap.size v1 (p.take k)) (hb1 : Below wb.heap.size wb w1) (A1 : Option Addr) (c1 : Nat) (hv : v1 = .slice A1 k c1) (hc1 : k <= c1) (hI : IL w1 w1.heap.size A1 (p.take k)) =>
   zNf (kHw w1.heap.size (w.heap.size + 1) w1.heap.size dm i m) (p.take k) d (w1.alloc (.cells #[.int .i64 i] 3)) (.agg #[.bool lf, .slice PA np pc, .slice TA nt tc, .slice KA nk kc]) n A1 k c1 (by simp; omega) (by omega) hc1 (by simp)
    (by
     have hz := hb1.size
     have hba : Below w1.heap.size w1 (w1.alloc (.cells #[.int .i64 i] 3)) := (Below.refl _ _).alloc (Nat.le_refl _) _
     refine ⟨⟨_, _, _, _, _, _, _, _, _, _, kI (kI hmb hb1) hba, ?_⟩, by simp, heap_alloc_new _ _⟩
     exact (((hm.below hb0).below (hb1.mono (by omega))).more (by omega)).below hba)
    (by
     have hz := hb1.size
     have hba : Below w1.heap.size w1 (w1.alloc (.cells #[.int .i64 i] 3)) := (Below.refl _ _).alloc (Nat.le_refl _) _
     exact (((hn.below hb0).below (hb1.mono (by omega))).more (by omega)).below hba)
    (hI.later ((Below.refl _ _).alloc (Nat.le_refl _) _)) (zVg hI (Nat.le_refl _)) (by rw [<- hup]; exact hbd))
  rw [show (fun (_ : NT) => (none : Option NT)) = fun _ => none from rfl] at HCH
  have HTK := hd (show (p.take k).length = k by simp; omega)
  obtain ⟨FR, hFR⟩ : ∃ FR, FR = zIf (zGn i m) n (p.take k) := ⟨_, rfl⟩
  simp only [zRx, <- hFR] at HCH
  rw [<- hFR] at HF
  obtain ⟨F1, F2⟩ := FR
  clear hn hm hp hb0 hsb hmb hrb hnb hlp hbd hpar hup hlast hi hc0 hFR
  go_enter Tryz.func84, Tryz.ntmps84
  subst hwb
  go_wp2_with (first
   | (go_at_call 129; refine HPR.out.mono ?_; intro e w1 h1; obtain ⟨v1, rfl, ho1, hb1⟩ := h1; obtain ⟨A1, c1, rfl, hc1, hI1⟩ := ho1.open_at k HTK.out; have HR1 := hd (kI HRB.out hb1); obtain ⟨x0, x1, x2, x3, _, _, _, _⟩ := zJ (kI HNB.out hb1); have hcc := (hb1.cell (p := ⟨b, o + k, none⟩) (by rw [HS.out]; show b < _; omega)).trans ((HB.out.cell (p := ⟨b, o + k, none⟩) hbl).trans HC0.out); have HCH1 := hd (HCH.out w1 _ ho1 hb1 A1 c1 rfl hc1 hI1); have HB1 := hd hb1; have hz1 := hb1.size; rw [HS.out] at hz1; have hl1 : w.heap.size < w1.heap.size := (by omega); clear ho1 hb1 hI1)
   | (go_at_call 130; refine HCH1.out.mono ?_; intro e w2 h2; obtain ⟨v2, d2, rfl, ht2, hb2⟩ := zP2.of_newO h2; obtain ⟨lf4, PA4, np4, pc4, TA4, nt4, tc4, KA4, nk4, kc4, rfl⟩ := (ht2.at_ (B := w2.heap.size) (fun b hb => hb.2)).val; have hb2' := zEu hb2; have hz2 := hb2.size; have hze : (w1.alloc (.cells #[.int .i64 i] 3)).heap.size = w1.heap.size + 1 := (by simp); rw [hze] at hz2; have HR2 := hd (kI HR1.out hb2'); obtain ⟨r0, r1, r2, r3, r4, r5, r6, r7⟩ := zJ HR2.out; have HT2 := hd ht2; have HB2 := hd hb2'; have HZE := hd hze; clear ht2 hb2 hb2' hze h2))
  have h7 := kD (a := .bool lf4) (b := .slice PA4 np4 pc4) (c := .slice TA4 nt4 tc4) (d := .slice KA4 nk4 kc4) HR2.out
  obtain ⟨t0, t1, t2, t3, _, _, _, _⟩ := zJ h7
  have hS := HS.out
  have hW : Below w.heap.size w w2 := (HB.out.trans (HB1.out.mono (by omega))).trans (HB2.out.mono (by omega))
  exact bodyPost_ret (v := .tuple #[.agg #[.bool lf4, .slice PA4 np4 pc4, .slice TA4 nt4 tc4, .slice KA4 nk4 kc4], .int .i64 F2]) (by simp [results, Tryz.results84, go_sem, t0, t1, t2, t3]) rfl (zJv HF.out (HT2.out.block_keep (fun b h1 h2 => by rw [HZE.out] at h1; rw [jK]; omega) (fun b h1 h2 => zT (by rw [HZE.out] at h1; omega))) (Below.set4 hW (by omega)))
end Go.Proofs.YtmkciabefepelaaGreat
