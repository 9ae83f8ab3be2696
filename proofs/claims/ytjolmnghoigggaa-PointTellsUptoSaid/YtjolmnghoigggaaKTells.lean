/- PointTells answers true where the tree is not too great. -/
import Derived.Test.YtjolmnghoigggaaKRefA
import Derived.BigQuiet
namespace Go.Proofs.Ytjolmnghoigggaa
open Go.RowKit

/-- The same with letters for the point and the error's number. -/
def TellsL (w : World) (R : List Int × Int → Int → Prop) (e : Ending) (w' : World) : Prop := ∃ (pt : List Int × Int) (er : Int) (A : Option Addr) (n c : Nat), R pt er ∧ pt.1.length ≤ 10000000 ∧ e = .returned (.tuple #[.agg #[.slice A n c, .int .i64 pt.2], .int .i64 er]) ∧ OwnI w' w.heap.size (.slice A n c) pt.1 ∧ Below w.heap.size w w'
def IsR (P : Option (List Int) → Prop) (f : List Int → Int) (pt : List Int × Int) (er : Int) : Prop := ∃ r, P r ∧ pt = pO f r ∧ er = eO r
set_option maxRecDepth 4000 in
theorem tells_l {w : World} {P : Option (List Int) → Prop} {f : List Int → Int} (hs : ∀ r, P r → (pO f r).1.length ≤ 10000000) {e : Ending} {w' : World} (h : Tells w P f e w') : TellsL w (IsR P f) e w' := by
  obtain ⟨r, hP, A, n, c, _, rfl, ho, hb⟩ := h
  exact ⟨_, _, A, n, c, ⟨r, hP, rfl, rfl⟩, hs r hP, rfl, ho, hb⟩
set_option maxRecDepth 4000 in
theorem last_shorts {n : NT} (hM : sizeT n ≤ 1048576) {F : List Int → Bool} {f : List Int → Int} : ∀ r, LastIs n F r → (pO f r).1.length ≤ 10000000
  | none, _ => by simp [pO]
  | some q, h => by have := leafB_short h.1; simp only [pO]; omega
set_option maxRecDepth 4000 in
theorem first_shorts {n : NT} (hM : sizeT n ≤ 1048576) {F : List Int → Bool} {f : List Int → Int} : ∀ r, FirstIs n F r → (pO f r).1.length ≤ 10000000
  | none, _ => by simp [pO]
  | some q, h => by have := leafB_short h.1; simp only [pO]; omega
set_option maxRecDepth 4000 in
theorem last_same {n : NT} {F : List Int → Bool} {f : List Int → Int} {p q : List Int × Int} {e g : Int} (h : IsR (LastIs n F) f p e) (h' : IsR (LastIs n F) f q g) : p = q ∧ e = g := by
  obtain ⟨r, h1, rfl, rfl⟩ := h
  obtain ⟨r', h2, rfl, rfl⟩ := h'
  have e := LastIs.same h2 h1
  rw [e]; exact ⟨rfl, rfl⟩
set_option maxRecDepth 4000 in
theorem first_same {n : NT} {F : List Int → Bool} {f : List Int → Int} {p q : List Int × Int} {e g : Int} (h : IsR (FirstIs n F) f p e) (h' : IsR (FirstIs n F) f q g) : p = q ∧ e = g := by
  obtain ⟨r, h1, rfl, rfl⟩ := h
  obtain ⟨r', h2, rfl, rfl⟩ := h'
  have e := FirstIs.same h2 h1
  rw [e]; exact ⟨rfl, rfl⟩
set_option maxRecDepth 4000 in
theorem stored_w {B g : Nat} {w W : World} (h : Below B w W) (hg : B ≤ g) (x y : Value) : Below B w ((W.setCell ⟨g, 0, none⟩ x).setCell ⟨g, 1, none⟩ y) := (h.setCell (by exact hg) x).setCell (by exact hg) y
set_option maxRecDepth 4000 in
theorem far_blk {w : World} {g g' : Nat} {cs : Array Value} {t : TypeId} (h : w.heap[g]? = some (.cells cs t (0, 0))) (hne : g ≠ g') (x y : Value) : ((w.setCell ⟨g', 0, none⟩ x).setCell ⟨g', 1, none⟩ y).heap[g]? = some (.cells cs t (0, 0)) := blk_far (blk_far h hne x) hne y

set_option maxRecDepth 4000 in
theorem rsame_self {w W : World} {u v : Value} {p : List Int × Int} (hb : Below w.heap.size w W) (hp : PtAt w u p) (hq : PtAt w v p) : Calls Try.prog 24 #[u, v] W (Still (.bool true) W) := samP_self p ▸ rsame_at hb hp hq


set_option maxRecDepth 100000 in
set_option maxHeartbeats 16000000 in
theorem ptells_law (w : World) (v : Value) (n : NT) (hM : sizeT n ≤ 1048576) (hN : ∃ d, NodeAt d w w.heap.size v n) (A : Option Addr) (p : List Int × Int) (ca : Nat) (hla : p.1.length ≤ 9223372036854775807) (hca : p.1.length ≤ ca) (hA : IL w w.heap.size A p.1) (B : Option Addr) (q : List Int × Int) (cb : Nat) (hlb : q.1.length ≤ 9223372036854775807) (hcb : q.1.length ≤ cb) (hB : IL w w.heap.size B q.1) :
    Calls Try.prog 4 #[v, .agg #[.slice A p.1.length ca, .int .i64 p.2], .agg #[.slice B q.1.length cb, .int .i64 q.2]] w (AllTrue w) := by
  obtain ⟨d, hn⟩ := hN
  obtain ⟨lf, PA, np, pc, TA, nt, tc, KA, nk, kc, rfl⟩ := hn.val
  obtain ⟨W0, hW⟩ : ∃ W0, ((w.alloc (.cells #[.bool lf, .slice PA np pc, .slice TA nt tc, .slice KA nk kc] 26)).alloc (.cells #[.slice A p.1.length ca, .int .i64 p.2] 29)).alloc (.cells #[.slice B q.1.length cb, .int .i64 q.2] 29) = W0 := ⟨_, rfl⟩
  have hb0 : Below w.heap.size w W0 := hW ▸ (below_mono2 (Below.refl _ _) (Nat.le_refl _)).alloc (by simp; omega) _
  have hz0 : W0.heap.size = w.heap.size + 1 + 1 + 1 := by rw [← hW]; simp
  have e0 := three_new w (Obj.cells #[Value.bool lf, .slice PA np pc, .slice TA nt tc, .slice KA nk kc] 26) (Obj.cells #[Value.slice A p.1.length ca, .int .i64 p.2] 29) (Obj.cells #[Value.slice B q.1.length cb, .int .i64 q.2] 29)
  rw [hW] at e0
  have HK := hd (show ∀ W, Below W0.heap.size W0 W → (W.cell? ⟨w.heap.size, 0, none⟩ = some (.bool lf) ∧ W.cell? ⟨w.heap.size, 1, none⟩ = some (.slice PA np pc) ∧ W.cell? ⟨w.heap.size, 2, none⟩ = some (.slice TA nt tc) ∧ W.cell? ⟨w.heap.size, 3, none⟩ = some (.slice KA nk kc) ∧ W.cell? ⟨w.heap.size + 1, 0, none⟩ = some (.slice A p.1.length ca) ∧ W.cell? ⟨w.heap.size + 1, 1, none⟩ = some (.int .i64 p.2) ∧ W.cell? ⟨w.heap.size + 1 + 1, 0, none⟩ = some (.slice B q.1.length cb) ∧ W.cell? ⟨w.heap.size + 1 + 1, 1, none⟩ = some (.int .i64 q.2)) from fun W h => by
    have h1 := blkCells (keepBlk e0.1 h)
    have h2 := blk2 (keepBlk e0.2.1 h)
    have h3 := blk2 (keepBlk e0.2.2 h)
    exact ⟨h1.1, h1.2.1, h1.2.2.1, h1.2.2.2.1, h2.1, h2.2.1, h3.1, h3.2.1⟩)
  obtain ⟨n0, n1, n2, n3, a0, a1, b0, b1⟩ := HK.out _ (Below.refl _ _)
  have HW := hd hW
  have HB0 := hd hb0
  have HLV := hd (live7_any W0)
  obtain ⟨F, hF⟩ : ∃ F, fewB 150 n = F := ⟨_, rfl⟩
  have HFW := hd (fun (W : World) (h : Below W0.heap.size W0 W) => hF ▸ few_any d W _ n 150 (by unfold In64; omega) ((hn.later hb0).later h))
  obtain ⟨S, hS⟩ : ∃ S, S = shortB [(A, p.1.length, ca, p.2), (B, q.1.length, cb, q.2)] := ⟨_, rfl⟩
  have HSH := hd (fun (W : World) => hS ▸ short_any W.heap.size [(A, p.1.length, ca, p.2), (B, q.1.length, cb, q.2)] 2 (W.alloc (.cells #[.slice A p.1.length ca, .int .i64 p.2, .slice B q.1.length cb, .int .i64 q.2] 29)) rfl (by omega) (by simp) (row_any (w := W) [(A, p.1.length, ca, p.2), (B, q.1.length, cb, q.2)] _) (fun q hq => by simp at hq; rcases hq with rfl | rfl <;> assumption))
  have HSS := hd hS
  have HN := hd (hn.later hb0)
  have HIA := hd (hA.later hb0)
  have HIB := hd (hB.later hb0)
  have HMM := hd hM
  clear hW hb0 e0 hn hF hS hA hB hM hz0
  cases F with
  | false =>
    go_enter Try.func4, Try.ntmps4
    go_wp2_with (first
      | (go_at_call 11; refine (HSH.out _).mono ?_; rintro e w3 ⟨rfl, bb⟩; have HB3 := hd (HB2.out.trans ((ex_below bb).mono HB2.out.size)); clear bb n0 n1 n2 n3 a0 a1 b0 b1; obtain ⟨n0, n1, n2, n3, a0, a1, b0, b1⟩ := HK.out _ HB3.out)
      | (go_at_call 10; refine Calls.mono (HFW.out _ HB1.out) ?_; rintro e w2 ⟨rfl, bb⟩; have HB2 := hd (HB1.out.trans (bb.mono HB1.out.size)); clear bb n0 n1 n2 n3 a0 a1 b0 b1; obtain ⟨n0, n1, n2, n3, a0, a1, b0, b1⟩ := HK.out _ HB2.out)
      | (go_at_call 9; rw [HW.out]; refine HLV.out.mono ?_; rintro e w1 ⟨rfl, bb⟩; have HB1 := hd bb; clear bb n0 n1 n2 n3 a0 a1 b0 b1; obtain ⟨n0, n1, n2, n3, a0, a1, b0, b1⟩ := HK.out _ HB1.out))
    exact bodyPost_ret (v := .bool true) (by simp [results, Try.results4, go_sem]) rfl ⟨rfl, HB0.out.trans (HB2.out.mono HB0.out.size)⟩
  | true =>
    cases S with
    | false =>
      go_enter Try.func4, Try.ntmps4
      go_wp2_with (first
        | (go_at_call 11; refine (HSH.out _).mono ?_; rintro e w3 ⟨rfl, bb⟩; have HB3 := hd (HB2.out.trans ((ex_below bb).mono HB2.out.size)); clear bb n0 n1 n2 n3 a0 a1 b0 b1; obtain ⟨n0, n1, n2, n3, a0, a1, b0, b1⟩ := HK.out _ HB3.out)
        | (go_at_call 10; refine Calls.mono (HFW.out _ HB1.out) ?_; rintro e w2 ⟨rfl, bb⟩; have HB2 := hd (HB1.out.trans (bb.mono HB1.out.size)); clear bb n0 n1 n2 n3 a0 a1 b0 b1; obtain ⟨n0, n1, n2, n3, a0, a1, b0, b1⟩ := HK.out _ HB2.out)
        | (go_at_call 9; rw [HW.out]; refine HLV.out.mono ?_; rintro e w1 ⟨rfl, bb⟩; have HB1 := hd bb; clear bb n0 n1 n2 n3 a0 a1 b0 b1; obtain ⟨n0, n1, n2, n3, a0, a1, b0, b1⟩ := HK.out _ HB1.out))
      exact bodyPost_ret (v := .bool true) (by simp [results, Try.results4, go_sem]) rfl ⟨rfl, HB0.out.trans (HB3.out.mono HB0.out.size)⟩
    | true =>
      have hs : p.1.length ≤ 50 ∧ q.1.length ≤ 50 := by have := HSS.out.symm; unfold shortB at this; simpa using this
      obtain ⟨hsp, hsq⟩ := hs
      have HPA := hd (show PtAt W0 (.agg #[.slice A p.1.length ca, .int .i64 p.2]) p from ⟨A, _, ca, rfl, rfl, by omega, hca, HIA.out⟩)
      have HPB := hd (show PtAt W0 (.agg #[.slice B q.1.length cb, .int .i64 q.2]) q from ⟨B, _, cb, rfl, rfl, by omega, hcb, HIB.out⟩)
      obtain ⟨t, ht⟩ : ∃ t, decide (cmpP q p < 0) = t := ⟨_, rfl⟩
      obtain ⟨P, hP⟩ : ∃ P, (if t then q else p) = P := ⟨_, rfl⟩
      obtain ⟨Q, hQ⟩ : ∃ Q, (if t then p else q) = Q := ⟨_, rfl⟩
      have hPs : P.1.length ≤ 10000000 := by rw [← hP]; split <;> omega
      have hQs : Q.1.length ≤ 10000000 := by rw [← hQ]; split <;> omega
      have HOR := hd (fun (W : World) (h : Below W0.heap.size W0 W) => (show Calls Try.prog 18 #[.agg #[.slice A p.1.length ca, .int .i64 p.2, .slice B q.1.length cb, .int .i64 q.2]] W (NewTwo W P Q t) from hP ▸ hQ ▸ order_any A B p q _ _ ca cb t W ht rfl rfl (by omega) (by omega) (HIA.out.later h) (HIB.out.later h)))
      have HRO := hd (fun (W : World) (h : Below W0.heap.size W0 W) => (show Calls Try.prog 19 #[.agg #[.slice A p.1.length ca, .int .i64 p.2, .slice B q.1.length cb, .int .i64 q.2]] W (NewTwo W P Q t) from hP ▸ hQ ▸ rorder_any A B p q _ _ ca cb t W ht rfl rfl (by omega) (by omega) (HIA.out.later h) (HIB.out.later h)))
      have HPF := hd (fun (W : World) (h : Below W0.heap.size W0 W) => Calls.mono (pfirst_any d W _ n HMM.out (HN.out.later h)) fun _ _ => tells_l (first_shorts HMM.out))
      have HRF := hd (fun (W : World) (h : Below W0.heap.size W0 W) => Calls.mono (rfirst_any d W _ n HMM.out (HN.out.later h)) fun _ _ => tells_l (first_shorts HMM.out))
      have HPL := hd (fun (W : World) (h : Below W0.heap.size W0 W) => Calls.mono (plast_any d W _ n HMM.out (HN.out.later h)) fun _ _ => tells_l (last_shorts HMM.out))
      have HRL := hd (fun (W : World) (h : Below W0.heap.size W0 W) => Calls.mono (rlast_any d W _ n HMM.out (HN.out.later h)) fun _ _ => tells_l (last_shorts HMM.out))
      have HPH := hd (fun (W : World) (h : Below W0.heap.size W0 W) => Calls.mono (pahead_any d W _ n A p.1 _ ca rfl (by omega) hca HMM.out (HN.out.later h) (HIA.out.later h)) fun _ _ => tells_l (last_shorts HMM.out))
      have HRH := hd (fun (W : World) (h : Below W0.heap.size W0 W) => Calls.mono (rahead_any d W _ n A p.1 _ ca rfl (by omega) hca HMM.out (HN.out.later h) (HIA.out.later h)) fun _ _ => tells_l (last_shorts HMM.out))
      have HPJ := hd (fun (W : World) (h : Below W0.heap.size W0 W) => Calls.mono (pbehind_any d W _ n A p.1 _ ca rfl (by omega) hca HMM.out (HN.out.later h) (HIA.out.later h)) fun _ _ => tells_l (first_shorts HMM.out))
      have HRJ := hd (fun (W : World) (h : Below W0.heap.size W0 W) => Calls.mono (rbehind_any d W _ n A p.1 _ ca rfl (by omega) hca HMM.out (HN.out.later h) (HIA.out.later h)) fun _ _ => tells_l (first_shorts HMM.out))
      have HPs0 := hd hPs
      have HQs0 := hd hQs
      clear hP hQ ht hPs hQs HSS
      go_enter Try.func4, Try.ntmps4
      go_upto_region 5 with (first
        | (go_at_call 11; refine (HSH.out _).mono ?_; rintro e w3 ⟨rfl, bb⟩; have HB3 := hd (HB2.out.trans ((ex_below bb).mono HB2.out.size)); clear bb n0 n1 n2 n3 a0 a1 b0 b1; obtain ⟨n0, n1, n2, n3, a0, a1, b0, b1⟩ := HK.out _ HB3.out)
        | (go_at_call 10; refine Calls.mono (HFW.out _ HB1.out) ?_; rintro e w2 ⟨rfl, bb⟩; have HB2 := hd (HB1.out.trans (bb.mono HB1.out.size)); clear bb n0 n1 n2 n3 a0 a1 b0 b1; obtain ⟨n0, n1, n2, n3, a0, a1, b0, b1⟩ := HK.out _ HB2.out)
        | (go_at_call 9; rw [HW.out]; refine HLV.out.mono ?_; rintro e w1 ⟨rfl, bb⟩; have HB1 := hd bb; clear bb n0 n1 n2 n3 a0 a1 b0 b1; obtain ⟨n0, n1, n2, n3, a0, a1, b0, b1⟩ := HK.out _ HB1.out))
      go_upto_region 6 with (go_at_call 18; refine (HOR.out _ HB3.out).mono ?_; rintro e w4 ⟨u1, u2, rfl, ⟨As, cs, rfl, ho1⟩, ⟨At, ct, rfl, ho2⟩, hb⟩; have HOs := hd ho1; have HOt := hd ho2; have HST := hd hb; clear ho1 ho2 hb n0 n1 n2 n3 a0 a1 b0 b1)
      obtain ⟨W5, hWN⟩ : ∃ W, W = (w4.alloc (.cells #[.slice As P.1.length cs, .int .i64 P.2] 29)).alloc (.cells #[.slice At Q.1.length ct, .int .i64 Q.2] 29) := ⟨_, rfl⟩
      rw [← hWN]
      have hst : Below w4.heap.size w4 W5 := hWN ▸ below_mono2 (Below.refl _ _) (Nat.le_refl _)
      have hpn := pt_new w4 (.cells #[.slice As P.1.length cs, .int .i64 P.2] 29) (.cells #[.slice At Q.1.length ct, .int .i64 Q.2] 29)
      rw [← hWN] at hpn
      have hzW5 : W5.heap.size = w4.heap.size + 1 + 1 := by rw [hWN]; simp
      have hyw4 := HST.out.size
      have W5B := hd ((HB3.out.trans (HST.out.mono HB3.out.size)).trans (hst.mono (HB3.out.trans (HST.out.mono HB3.out.size)).size))
      have HXs := hd hpn.1
      have HXt := hd hpn.2
      have HOs := hd (HOs.out.below hst)
      have HOt := hd (HOt.out.below hst)
      clear hWN hst hpn HST
      obtain ⟨n0, n1, n2, n3, a0, a1, b0, b1⟩ := HK.out _ W5B.out
      go_upto_region 7 with (go_at_call 19; refine (HRO.out _ W5B.out).mono ?_; rintro e w6 ⟨u1, u2, rfl, ⟨Ax, cx, rfl, ho1⟩, ⟨Ay, cy, rfl, ho2⟩, hb⟩; have HOx := hd ho1; have HOy := hd ho2; have HST := hd hb; clear ho1 ho2 hb n0 n1 n2 n3 a0 a1 b0 b1)
      have HXs := hd (keepBlk HXs.out HST.out)
      have HOs := hd (HOs.out.below HST.out)
      have HXt := hd (keepBlk HXt.out HST.out)
      have HOt := hd (HOt.out.below HST.out)
      obtain ⟨W7, hWN⟩ : ∃ W, W = (w6.alloc (.cells #[.slice Ax P.1.length cx, .int .i64 P.2] 29)).alloc (.cells #[.slice Ay Q.1.length cy, .int .i64 Q.2] 29) := ⟨_, rfl⟩
      rw [← hWN]
      have hst : Below w6.heap.size w6 W7 := hWN ▸ below_mono2 (Below.refl _ _) (Nat.le_refl _)
      have hpn := pt_new w6 (.cells #[.slice Ax P.1.length cx, .int .i64 P.2] 29) (.cells #[.slice Ay Q.1.length cy, .int .i64 Q.2] 29)
      rw [← hWN] at hpn
      have hzW7 : W7.heap.size = w6.heap.size + 1 + 1 := by rw [hWN]; simp
      have hyw6 := HST.out.size
      have W7B := hd ((W5B.out.trans (HST.out.mono W5B.out.size)).trans (hst.mono (W5B.out.trans (HST.out.mono W5B.out.size)).size))
      have HXs := hd (keepBlk HXs.out hst)
      have HOs := hd (HOs.out.below hst)
      have HXt := hd (keepBlk HXt.out hst)
      have HOt := hd (HOt.out.below hst)
      have HXx := hd hpn.1
      have HXy := hd hpn.2
      have HOx := hd (HOx.out.below hst)
      have HOy := hd (HOy.out.below hst)
      clear hWN hst hpn HST
      obtain ⟨n0, n1, n2, n3, a0, a1, b0, b1⟩ := HK.out _ W7B.out
      go_upto_region 8 with (go_at_call 20; refine (HPF.out _ W7B.out).mono ?_; intro e w8 h; obtain ⟨pf, ef, Af, mf, cf, hR, hs, rfl, ho, hb⟩ := h; have HRf := hd hR; have HOf := hd ho; have HST := hd hb; have HLf := hd hs; clear ho hb hs hR n0 n1 n2 n3 a0 a1 b0 b1)
      have HXs := hd (keepBlk HXs.out HST.out)
      have HOs := hd (HOs.out.below HST.out)
      have HXt := hd (keepBlk HXt.out HST.out)
      have HOt := hd (HOt.out.below HST.out)
      have HXx := hd (keepBlk HXx.out HST.out)
      have HOx := hd (HOx.out.below HST.out)
      have HXy := hd (keepBlk HXy.out HST.out)
      have HOy := hd (HOy.out.below HST.out)
      obtain ⟨W9, hWN⟩ : ∃ W, W = w8.alloc (.cells #[.slice Af mf cf, .int .i64 pf.2] 29) := ⟨_, rfl⟩
      rw [← hWN]
      have hst : Below w8.heap.size w8 W9 := hWN ▸ (Below.refl _ _).alloc (Nat.le_refl _) _
      have hpn := heap_alloc_new w8 (.cells #[.slice Af mf cf, .int .i64 pf.2] 29)
      rw [← hWN] at hpn
      have hzW9 : W9.heap.size = w8.heap.size + 1 := by rw [hWN]; simp
      have hyw8 := HST.out.size
      have W9B := hd ((W7B.out.trans (HST.out.mono W7B.out.size)).trans (hst.mono (W7B.out.trans (HST.out.mono W7B.out.size)).size))
      have HXs := hd (keepBlk HXs.out hst)
      have HOs := hd (HOs.out.below hst)
      have HXt := hd (keepBlk HXt.out hst)
      have HOt := hd (HOt.out.below hst)
      have HXx := hd (keepBlk HXx.out hst)
      have HOx := hd (HOx.out.below hst)
      have HXy := hd (keepBlk HXy.out hst)
      have HOy := hd (HOy.out.below hst)
      have HXf := hd hpn
      have HOf := hd (HOf.out.below hst)
      clear hWN hst hpn HST
      obtain ⟨n0, n1, n2, n3, a0, a1, b0, b1⟩ := HK.out _ W9B.out
      go_upto_region 9 with (go_at_call 21; refine (HRF.out _ W9B.out).mono ?_; intro e w10 h; obtain ⟨pg, eg, Ag, mg, cg, hR, hs, rfl, ho, hb⟩ := h; obtain ⟨rfl, rfl⟩ := first_same HRf.out hR; have HOg := hd ho; have HST := hd hb; clear ho hb hs hR n0 n1 n2 n3 a0 a1 b0 b1)
      have HXs := hd (keepBlk HXs.out HST.out)
      have HOs := hd (HOs.out.below HST.out)
      have HXt := hd (keepBlk HXt.out HST.out)
      have HOt := hd (HOt.out.below HST.out)
      have HXx := hd (keepBlk HXx.out HST.out)
      have HOx := hd (HOx.out.below HST.out)
      have HXy := hd (keepBlk HXy.out HST.out)
      have HOy := hd (HOy.out.below HST.out)
      have HXf := hd (keepBlk HXf.out HST.out)
      have HOf := hd (HOf.out.below HST.out)
      obtain ⟨W11, hWN⟩ : ∃ W, W = w10.alloc (.cells #[.slice Ag mg cg, .int .i64 pf.2] 29) := ⟨_, rfl⟩
      rw [← hWN]
      have hst : Below w10.heap.size w10 W11 := hWN ▸ (Below.refl _ _).alloc (Nat.le_refl _) _
      have hpn := heap_alloc_new w10 (.cells #[.slice Ag mg cg, .int .i64 pf.2] 29)
      rw [← hWN] at hpn
      have hzW11 : W11.heap.size = w10.heap.size + 1 := by rw [hWN]; simp
      have hyw10 := HST.out.size
      have W11B := hd ((W9B.out.trans (HST.out.mono W9B.out.size)).trans (hst.mono (W9B.out.trans (HST.out.mono W9B.out.size)).size))
      have HXs := hd (keepBlk HXs.out hst)
      have HOs := hd (HOs.out.below hst)
      have HXt := hd (keepBlk HXt.out hst)
      have HOt := hd (HOt.out.below hst)
      have HXx := hd (keepBlk HXx.out hst)
      have HOx := hd (HOx.out.below hst)
      have HXy := hd (keepBlk HXy.out hst)
      have HOy := hd (HOy.out.below hst)
      have HXf := hd (keepBlk HXf.out hst)
      have HOf := hd (HOf.out.below hst)
      have HXg := hd hpn
      have HOg := hd (HOg.out.below hst)
      clear hWN hst hpn HST
      obtain ⟨n0, n1, n2, n3, a0, a1, b0, b1⟩ := HK.out _ W11B.out
      go_upto_region 10 with (go_at_call 22; refine (HPL.out _ W11B.out).mono ?_; intro e w12 h; obtain ⟨pl, el, Al, ml, cl, hR, hs, rfl, ho, hb⟩ := h; have HRl := hd hR; have HOl := hd ho; have HST := hd hb; have HLl := hd hs; clear ho hb hs hR n0 n1 n2 n3 a0 a1 b0 b1)
      have HXs := hd (keepBlk HXs.out HST.out)
      have HOs := hd (HOs.out.below HST.out)
      have HXt := hd (keepBlk HXt.out HST.out)
      have HOt := hd (HOt.out.below HST.out)
      have HXx := hd (keepBlk HXx.out HST.out)
      have HOx := hd (HOx.out.below HST.out)
      have HXy := hd (keepBlk HXy.out HST.out)
      have HOy := hd (HOy.out.below HST.out)
      have HXf := hd (keepBlk HXf.out HST.out)
      have HOf := hd (HOf.out.below HST.out)
      have HXg := hd (keepBlk HXg.out HST.out)
      have HOg := hd (HOg.out.below HST.out)
      obtain ⟨W13, hWN⟩ : ∃ W, W = w12.alloc (.cells #[.slice Al ml cl, .int .i64 pl.2] 29) := ⟨_, rfl⟩
      rw [← hWN]
      have hst : Below w12.heap.size w12 W13 := hWN ▸ (Below.refl _ _).alloc (Nat.le_refl _) _
      have hpn := heap_alloc_new w12 (.cells #[.slice Al ml cl, .int .i64 pl.2] 29)
      rw [← hWN] at hpn
      have hzW13 : W13.heap.size = w12.heap.size + 1 := by rw [hWN]; simp
      have hyw12 := HST.out.size
      have W13B := hd ((W11B.out.trans (HST.out.mono W11B.out.size)).trans (hst.mono (W11B.out.trans (HST.out.mono W11B.out.size)).size))
      have HXs := hd (keepBlk HXs.out hst)
      have HOs := hd (HOs.out.below hst)
      have HXt := hd (keepBlk HXt.out hst)
      have HOt := hd (HOt.out.below hst)
      have HXx := hd (keepBlk HXx.out hst)
      have HOx := hd (HOx.out.below hst)
      have HXy := hd (keepBlk HXy.out hst)
      have HOy := hd (HOy.out.below hst)
      have HXf := hd (keepBlk HXf.out hst)
      have HOf := hd (HOf.out.below hst)
      have HXg := hd (keepBlk HXg.out hst)
      have HOg := hd (HOg.out.below hst)
      have HXl := hd hpn
      have HOl := hd (HOl.out.below hst)
      clear hWN hst hpn HST
      obtain ⟨n0, n1, n2, n3, a0, a1, b0, b1⟩ := HK.out _ W13B.out
      go_upto_region 11 with (go_at_call 23; refine (HRL.out _ W13B.out).mono ?_; intro e w14 h; obtain ⟨pm, em, Am, mm, cm, hR, hs, rfl, ho, hb⟩ := h; obtain ⟨rfl, rfl⟩ := last_same HRl.out hR; have HOm := hd ho; have HST := hd hb; clear ho hb hs hR n0 n1 n2 n3 a0 a1 b0 b1)
      have HXs := hd (keepBlk HXs.out HST.out)
      have HOs := hd (HOs.out.below HST.out)
      have HXt := hd (keepBlk HXt.out HST.out)
      have HOt := hd (HOt.out.below HST.out)
      have HXx := hd (keepBlk HXx.out HST.out)
      have HOx := hd (HOx.out.below HST.out)
      have HXy := hd (keepBlk HXy.out HST.out)
      have HOy := hd (HOy.out.below HST.out)
      have HXf := hd (keepBlk HXf.out HST.out)
      have HOf := hd (HOf.out.below HST.out)
      have HXg := hd (keepBlk HXg.out HST.out)
      have HOg := hd (HOg.out.below HST.out)
      have HXl := hd (keepBlk HXl.out HST.out)
      have HOl := hd (HOl.out.below HST.out)
      obtain ⟨W15, hWN⟩ : ∃ W, W = w14.alloc (.cells #[.slice Am mm cm, .int .i64 pl.2] 29) := ⟨_, rfl⟩
      rw [← hWN]
      have hst : Below w14.heap.size w14 W15 := hWN ▸ (Below.refl _ _).alloc (Nat.le_refl _) _
      have hpn := heap_alloc_new w14 (.cells #[.slice Am mm cm, .int .i64 pl.2] 29)
      rw [← hWN] at hpn
      have hzW15 : W15.heap.size = w14.heap.size + 1 := by rw [hWN]; simp
      have hyw14 := HST.out.size
      have W15B := hd ((W13B.out.trans (HST.out.mono W13B.out.size)).trans (hst.mono (W13B.out.trans (HST.out.mono W13B.out.size)).size))
      have HXs := hd (keepBlk HXs.out hst)
      have HOs := hd (HOs.out.below hst)
      have HXt := hd (keepBlk HXt.out hst)
      have HOt := hd (HOt.out.below hst)
      have HXx := hd (keepBlk HXx.out hst)
      have HOx := hd (HOx.out.below hst)
      have HXy := hd (keepBlk HXy.out hst)
      have HOy := hd (HOy.out.below hst)
      have HXf := hd (keepBlk HXf.out hst)
      have HOf := hd (HOf.out.below hst)
      have HXg := hd (keepBlk HXg.out hst)
      have HOg := hd (HOg.out.below hst)
      have HXl := hd (keepBlk HXl.out hst)
      have HOl := hd (HOl.out.below hst)
      have HXm := hd hpn
      have HOm := hd (HOm.out.below hst)
      clear hWN hst hpn HST
      obtain ⟨n0, n1, n2, n3, a0, a1, b0, b1⟩ := HK.out _ W15B.out
      have HMK := hd (fun (W : World) (h : Below W15.heap.size W15 W) => And.intro (HK.out W (W15B.out.trans (h.mono W15B.out.size))) (And.intro (blk2 (keepBlk HXf.out h)) (And.intro (blk2 (keepBlk HXg.out h)) (And.intro (blk2 (keepBlk HXl.out h)) (blk2 (keepBlk HXm.out h))))))
      have HPf := hd (show PtAt W15 (.agg #[.slice Af mf cf, .int .i64 pf.2]) pf from PtAt.of_new HOf.out HLf.out)
      have HPg := hd (show PtAt W15 (.agg #[.slice Ag mg cg, .int .i64 pf.2]) pf from PtAt.of_new HOg.out HLf.out)
      have HPl := hd (show PtAt W15 (.agg #[.slice Al ml cl, .int .i64 pl.2]) pl from PtAt.of_new HOl.out HLl.out)
      have HPm := hd (show PtAt W15 (.agg #[.slice Am mm cm, .int .i64 pl.2]) pl from PtAt.of_new HOm.out HLl.out)
      have HBc := hd (Below.refl W15.heap.size W15)
      have hself := fun p => samP_self p
      clear n0 n1 n2 n3 a0 a1 b0 b1
      obtain ⟨⟨n0, n1, n2, n3, a0, a1, b0, b1⟩, ⟨f0, f1, _, _⟩, ⟨g0, g1, _, _⟩, ⟨l0, l1, _, _⟩, m0, m1, _, _⟩ := HMK.out _ HBc.out
      go_upto_region 13 with (go_at_call 24; refine Calls.mono (rsame_at HBc.out (by first | exact HPf.out | exact HPl.out) (by first | exact HPg.out | exact HPm.out)) ?_; rintro e w9 ⟨rfl, bb⟩; have HBc := hd (HBc.out.trans (bb.mono HBc.out.size)); clear bb f0 f1 g0 g1 l0 l1 m0 m1 n0 n1 n2 n3 a0 a1 b0 b1; obtain ⟨⟨n0, n1, n2, n3, a0, a1, b0, b1⟩, ⟨f0, f1, _, _⟩, ⟨g0, g1, _, _⟩, ⟨l0, l1, _, _⟩, m0, m1, _, _⟩ := HMK.out _ HBc.out)
      clear f0 f1 g0 g1 l0 l1 m0 m1 n0 n1 n2 n3 a0 a1 b0 b1 HPf HPg HPl HPm
      have HST := hd HBc.out
      have hyw9 := HST.out.size
      have HXs := hd (keepBlk HXs.out HST.out)
      have HOs := hd (HOs.out.below HST.out)
      have HXt := hd (keepBlk HXt.out HST.out)
      have HOt := hd (HOt.out.below HST.out)
      have HXx := hd (keepBlk HXx.out HST.out)
      have HOx := hd (HOx.out.below HST.out)
      have HXy := hd (keepBlk HXy.out HST.out)
      have HOy := hd (HOy.out.below HST.out)
      have HXf := hd (keepBlk HXf.out HST.out)
      have HOf := hd (HOf.out.below HST.out)
      have HXg := hd (keepBlk HXg.out HST.out)
      have HOg := hd (HOg.out.below HST.out)
      have HXl := hd (keepBlk HXl.out HST.out)
      have HOl := hd (HOl.out.below HST.out)
      have HXm := hd (keepBlk HXm.out HST.out)
      have HOm := hd (HOm.out.below HST.out)
      have w9B := hd (W15B.out.trans (HST.out.mono W15B.out.size))
      have hy3 := HB3.out.size
      clear HBc HMK HST HRf HRl
      obtain ⟨n0, n1, n2, n3, a0, a1, b0, b1⟩ := HK.out _ w9B.out
      obtain ⟨z0, z1, z2, z3⟩ := blk2 HXf.out
      go_upto_region 14 with (go_at_call 25; refine (HPH.out _ w9B.out).mono ?_; intro e w16 h; obtain ⟨qf, df, Df, kf, jf, hR, hs, rfl, ho, hb⟩ := h; have HSf := hd hR; have HDf := hd ho; have HST := hd hb; have HJf := hd hs; clear ho hb hs hR n0 n1 n2 n3 a0 a1 b0 b1 z0 z1 z2 z3; obtain ⟨z0, z1, z2, z3⟩ := blk2 (keepBlk HXf.out HST.out))
      clear z0 z1 z2 z3
      obtain ⟨W17, hWN⟩ : ∃ W, W = (w16.setCell ⟨w8.heap.size, 0, none⟩ (.slice Df kf jf)).setCell ⟨w8.heap.size, 1, none⟩ (.int .i64 qf.2) := ⟨_, rfl⟩
      rw [← hWN]
      have hg := keepBlk HXf.out HST.out
      have hyw16 := HST.out.size
      have hzW17 : W17.heap.size = w16.heap.size := by rw [hWN]; simp
      have W17B := hd (show Below W0.heap.size W0 W17 from hWN ▸ stored_w (w9B.out.trans (HST.out.mono w9B.out.size)) (by omega) _ _)
      have HOs := hd (hWN ▸ ((HOs.out.below HST.out).pt (x := (.slice Df kf jf)) (y := (.int .i64 qf.2)) hg).2)
      have HXs := hd (hWN ▸ far_blk (keepBlk HXs.out HST.out) (show w4.heap.size ≠ w8.heap.size by omega) (.slice Df kf jf) (.int .i64 qf.2))
      have HOt := hd (hWN ▸ ((HOt.out.below HST.out).pt (x := (.slice Df kf jf)) (y := (.int .i64 qf.2)) hg).2)
      have HXt := hd (hWN ▸ far_blk (keepBlk HXt.out HST.out) (show w4.heap.size + 1 ≠ w8.heap.size by omega) (.slice Df kf jf) (.int .i64 qf.2))
      have HOx := hd (hWN ▸ ((HOx.out.below HST.out).pt (x := (.slice Df kf jf)) (y := (.int .i64 qf.2)) hg).2)
      have HXx := hd (hWN ▸ far_blk (keepBlk HXx.out HST.out) (show w6.heap.size ≠ w8.heap.size by omega) (.slice Df kf jf) (.int .i64 qf.2))
      have HOy := hd (hWN ▸ ((HOy.out.below HST.out).pt (x := (.slice Df kf jf)) (y := (.int .i64 qf.2)) hg).2)
      have HXy := hd (hWN ▸ far_blk (keepBlk HXy.out HST.out) (show w6.heap.size + 1 ≠ w8.heap.size by omega) (.slice Df kf jf) (.int .i64 qf.2))
      have HOg := hd (hWN ▸ ((HOg.out.below HST.out).pt (x := (.slice Df kf jf)) (y := (.int .i64 qf.2)) hg).2)
      have HXg := hd (hWN ▸ far_blk (keepBlk HXg.out HST.out) (show w10.heap.size ≠ w8.heap.size by omega) (.slice Df kf jf) (.int .i64 qf.2))
      have HOl := hd (hWN ▸ ((HOl.out.below HST.out).pt (x := (.slice Df kf jf)) (y := (.int .i64 qf.2)) hg).2)
      have HXl := hd (hWN ▸ far_blk (keepBlk HXl.out HST.out) (show w12.heap.size ≠ w8.heap.size by omega) (.slice Df kf jf) (.int .i64 qf.2))
      have HOm := hd (hWN ▸ ((HOm.out.below HST.out).pt (x := (.slice Df kf jf)) (y := (.int .i64 qf.2)) hg).2)
      have HXm := hd (hWN ▸ far_blk (keepBlk HXm.out HST.out) (show w14.heap.size ≠ w8.heap.size by omega) (.slice Df kf jf) (.int .i64 qf.2))
      have HOf := hd (hWN ▸ (HDf.out.pt (x := (.slice Df kf jf)) (y := (.int .i64 qf.2)) hg).2)
      have HXf := hd (hWN ▸ blk2_both hg (.slice Df kf jf) (.int .i64 qf.2))
      clear hWN hg HST HDf
      obtain ⟨n0, n1, n2, n3, a0, a1, b0, b1⟩ := HK.out _ W17B.out
      obtain ⟨z0, z1, z2, z3⟩ := blk2 HXg.out
      go_upto_region 15 with (go_at_call 26; refine (HRH.out _ W17B.out).mono ?_; intro e w18 h; obtain ⟨qg, dg, Dg, kg, jg, hR, hs, rfl, ho, hb⟩ := h; obtain ⟨rfl, rfl⟩ := last_same HSf.out hR; have HDg := hd ho; have HST := hd hb; clear ho hb hs hR n0 n1 n2 n3 a0 a1 b0 b1 z0 z1 z2 z3; obtain ⟨z0, z1, z2, z3⟩ := blk2 (keepBlk HXg.out HST.out))
      clear z0 z1 z2 z3
      obtain ⟨W19, hWN⟩ : ∃ W, W = (w18.setCell ⟨w10.heap.size, 0, none⟩ (.slice Dg kg jg)).setCell ⟨w10.heap.size, 1, none⟩ (.int .i64 qf.2) := ⟨_, rfl⟩
      rw [← hWN]
      have hg := keepBlk HXg.out HST.out
      have hyw18 := HST.out.size
      have hzW19 : W19.heap.size = w18.heap.size := by rw [hWN]; simp
      have W19B := hd (show Below W0.heap.size W0 W19 from hWN ▸ stored_w (W17B.out.trans (HST.out.mono W17B.out.size)) (by omega) _ _)
      have HOs := hd (hWN ▸ ((HOs.out.below HST.out).pt (x := (.slice Dg kg jg)) (y := (.int .i64 qf.2)) hg).2)
      have HXs := hd (hWN ▸ far_blk (keepBlk HXs.out HST.out) (show w4.heap.size ≠ w10.heap.size by omega) (.slice Dg kg jg) (.int .i64 qf.2))
      have HOt := hd (hWN ▸ ((HOt.out.below HST.out).pt (x := (.slice Dg kg jg)) (y := (.int .i64 qf.2)) hg).2)
      have HXt := hd (hWN ▸ far_blk (keepBlk HXt.out HST.out) (show w4.heap.size + 1 ≠ w10.heap.size by omega) (.slice Dg kg jg) (.int .i64 qf.2))
      have HOx := hd (hWN ▸ ((HOx.out.below HST.out).pt (x := (.slice Dg kg jg)) (y := (.int .i64 qf.2)) hg).2)
      have HXx := hd (hWN ▸ far_blk (keepBlk HXx.out HST.out) (show w6.heap.size ≠ w10.heap.size by omega) (.slice Dg kg jg) (.int .i64 qf.2))
      have HOy := hd (hWN ▸ ((HOy.out.below HST.out).pt (x := (.slice Dg kg jg)) (y := (.int .i64 qf.2)) hg).2)
      have HXy := hd (hWN ▸ far_blk (keepBlk HXy.out HST.out) (show w6.heap.size + 1 ≠ w10.heap.size by omega) (.slice Dg kg jg) (.int .i64 qf.2))
      have HOf := hd (hWN ▸ ((HOf.out.below HST.out).pt (x := (.slice Dg kg jg)) (y := (.int .i64 qf.2)) hg).2)
      have HXf := hd (hWN ▸ far_blk (keepBlk HXf.out HST.out) (show w8.heap.size ≠ w10.heap.size by omega) (.slice Dg kg jg) (.int .i64 qf.2))
      have HOl := hd (hWN ▸ ((HOl.out.below HST.out).pt (x := (.slice Dg kg jg)) (y := (.int .i64 qf.2)) hg).2)
      have HXl := hd (hWN ▸ far_blk (keepBlk HXl.out HST.out) (show w12.heap.size ≠ w10.heap.size by omega) (.slice Dg kg jg) (.int .i64 qf.2))
      have HOm := hd (hWN ▸ ((HOm.out.below HST.out).pt (x := (.slice Dg kg jg)) (y := (.int .i64 qf.2)) hg).2)
      have HXm := hd (hWN ▸ far_blk (keepBlk HXm.out HST.out) (show w14.heap.size ≠ w10.heap.size by omega) (.slice Dg kg jg) (.int .i64 qf.2))
      have HOg := hd (hWN ▸ (HDg.out.pt (x := (.slice Dg kg jg)) (y := (.int .i64 qf.2)) hg).2)
      have HXg := hd (hWN ▸ blk2_both hg (.slice Dg kg jg) (.int .i64 qf.2))
      clear hWN hg HST HDg
      obtain ⟨n0, n1, n2, n3, a0, a1, b0, b1⟩ := HK.out _ W19B.out
      obtain ⟨z0, z1, z2, z3⟩ := blk2 HXl.out
      go_upto_region 16 with (go_at_call 27; refine (HPJ.out _ W19B.out).mono ?_; intro e w20 h; obtain ⟨ql, dl, Dl, kl, jl, hR, hs, rfl, ho, hb⟩ := h; have HSl := hd hR; have HDl := hd ho; have HST := hd hb; have HJl := hd hs; clear ho hb hs hR n0 n1 n2 n3 a0 a1 b0 b1 z0 z1 z2 z3; obtain ⟨z0, z1, z2, z3⟩ := blk2 (keepBlk HXl.out HST.out))
      clear z0 z1 z2 z3
      obtain ⟨W21, hWN⟩ : ∃ W, W = (w20.setCell ⟨w12.heap.size, 0, none⟩ (.slice Dl kl jl)).setCell ⟨w12.heap.size, 1, none⟩ (.int .i64 ql.2) := ⟨_, rfl⟩
      rw [← hWN]
      have hg := keepBlk HXl.out HST.out
      have hyw20 := HST.out.size
      have hzW21 : W21.heap.size = w20.heap.size := by rw [hWN]; simp
      have W21B := hd (show Below W0.heap.size W0 W21 from hWN ▸ stored_w (W19B.out.trans (HST.out.mono W19B.out.size)) (by omega) _ _)
      have HOs := hd (hWN ▸ ((HOs.out.below HST.out).pt (x := (.slice Dl kl jl)) (y := (.int .i64 ql.2)) hg).2)
      have HXs := hd (hWN ▸ far_blk (keepBlk HXs.out HST.out) (show w4.heap.size ≠ w12.heap.size by omega) (.slice Dl kl jl) (.int .i64 ql.2))
      have HOt := hd (hWN ▸ ((HOt.out.below HST.out).pt (x := (.slice Dl kl jl)) (y := (.int .i64 ql.2)) hg).2)
      have HXt := hd (hWN ▸ far_blk (keepBlk HXt.out HST.out) (show w4.heap.size + 1 ≠ w12.heap.size by omega) (.slice Dl kl jl) (.int .i64 ql.2))
      have HOx := hd (hWN ▸ ((HOx.out.below HST.out).pt (x := (.slice Dl kl jl)) (y := (.int .i64 ql.2)) hg).2)
      have HXx := hd (hWN ▸ far_blk (keepBlk HXx.out HST.out) (show w6.heap.size ≠ w12.heap.size by omega) (.slice Dl kl jl) (.int .i64 ql.2))
      have HOy := hd (hWN ▸ ((HOy.out.below HST.out).pt (x := (.slice Dl kl jl)) (y := (.int .i64 ql.2)) hg).2)
      have HXy := hd (hWN ▸ far_blk (keepBlk HXy.out HST.out) (show w6.heap.size + 1 ≠ w12.heap.size by omega) (.slice Dl kl jl) (.int .i64 ql.2))
      have HOf := hd (hWN ▸ ((HOf.out.below HST.out).pt (x := (.slice Dl kl jl)) (y := (.int .i64 ql.2)) hg).2)
      have HXf := hd (hWN ▸ far_blk (keepBlk HXf.out HST.out) (show w8.heap.size ≠ w12.heap.size by omega) (.slice Dl kl jl) (.int .i64 ql.2))
      have HOg := hd (hWN ▸ ((HOg.out.below HST.out).pt (x := (.slice Dl kl jl)) (y := (.int .i64 ql.2)) hg).2)
      have HXg := hd (hWN ▸ far_blk (keepBlk HXg.out HST.out) (show w10.heap.size ≠ w12.heap.size by omega) (.slice Dl kl jl) (.int .i64 ql.2))
      have HOm := hd (hWN ▸ ((HOm.out.below HST.out).pt (x := (.slice Dl kl jl)) (y := (.int .i64 ql.2)) hg).2)
      have HXm := hd (hWN ▸ far_blk (keepBlk HXm.out HST.out) (show w14.heap.size ≠ w12.heap.size by omega) (.slice Dl kl jl) (.int .i64 ql.2))
      have HOl := hd (hWN ▸ (HDl.out.pt (x := (.slice Dl kl jl)) (y := (.int .i64 ql.2)) hg).2)
      have HXl := hd (hWN ▸ blk2_both hg (.slice Dl kl jl) (.int .i64 ql.2))
      clear hWN hg HST HDl
      obtain ⟨n0, n1, n2, n3, a0, a1, b0, b1⟩ := HK.out _ W21B.out
      obtain ⟨z0, z1, z2, z3⟩ := blk2 HXm.out
      go_upto_region 17 with (go_at_call 28; refine (HRJ.out _ W21B.out).mono ?_; intro e w22 h; obtain ⟨qm, dm, Dm, km, jm, hR, hs, rfl, ho, hb⟩ := h; obtain ⟨rfl, rfl⟩ := first_same HSl.out hR; have HDm := hd ho; have HST := hd hb; clear ho hb hs hR n0 n1 n2 n3 a0 a1 b0 b1 z0 z1 z2 z3; obtain ⟨z0, z1, z2, z3⟩ := blk2 (keepBlk HXm.out HST.out))
      clear z0 z1 z2 z3
      obtain ⟨W23, hWN⟩ : ∃ W, W = (w22.setCell ⟨w14.heap.size, 0, none⟩ (.slice Dm km jm)).setCell ⟨w14.heap.size, 1, none⟩ (.int .i64 ql.2) := ⟨_, rfl⟩
      rw [← hWN]
      have hg := keepBlk HXm.out HST.out
      have hyw22 := HST.out.size
      have hzW23 : W23.heap.size = w22.heap.size := by rw [hWN]; simp
      have W23B := hd (show Below W0.heap.size W0 W23 from hWN ▸ stored_w (W21B.out.trans (HST.out.mono W21B.out.size)) (by omega) _ _)
      have HOs := hd (hWN ▸ ((HOs.out.below HST.out).pt (x := (.slice Dm km jm)) (y := (.int .i64 ql.2)) hg).2)
      have HXs := hd (hWN ▸ far_blk (keepBlk HXs.out HST.out) (show w4.heap.size ≠ w14.heap.size by omega) (.slice Dm km jm) (.int .i64 ql.2))
      have HOt := hd (hWN ▸ ((HOt.out.below HST.out).pt (x := (.slice Dm km jm)) (y := (.int .i64 ql.2)) hg).2)
      have HXt := hd (hWN ▸ far_blk (keepBlk HXt.out HST.out) (show w4.heap.size + 1 ≠ w14.heap.size by omega) (.slice Dm km jm) (.int .i64 ql.2))
      have HOx := hd (hWN ▸ ((HOx.out.below HST.out).pt (x := (.slice Dm km jm)) (y := (.int .i64 ql.2)) hg).2)
      have HXx := hd (hWN ▸ far_blk (keepBlk HXx.out HST.out) (show w6.heap.size ≠ w14.heap.size by omega) (.slice Dm km jm) (.int .i64 ql.2))
      have HOy := hd (hWN ▸ ((HOy.out.below HST.out).pt (x := (.slice Dm km jm)) (y := (.int .i64 ql.2)) hg).2)
      have HXy := hd (hWN ▸ far_blk (keepBlk HXy.out HST.out) (show w6.heap.size + 1 ≠ w14.heap.size by omega) (.slice Dm km jm) (.int .i64 ql.2))
      have HOf := hd (hWN ▸ ((HOf.out.below HST.out).pt (x := (.slice Dm km jm)) (y := (.int .i64 ql.2)) hg).2)
      have HXf := hd (hWN ▸ far_blk (keepBlk HXf.out HST.out) (show w8.heap.size ≠ w14.heap.size by omega) (.slice Dm km jm) (.int .i64 ql.2))
      have HOg := hd (hWN ▸ ((HOg.out.below HST.out).pt (x := (.slice Dm km jm)) (y := (.int .i64 ql.2)) hg).2)
      have HXg := hd (hWN ▸ far_blk (keepBlk HXg.out HST.out) (show w10.heap.size ≠ w14.heap.size by omega) (.slice Dm km jm) (.int .i64 ql.2))
      have HOl := hd (hWN ▸ ((HOl.out.below HST.out).pt (x := (.slice Dm km jm)) (y := (.int .i64 ql.2)) hg).2)
      have HXl := hd (hWN ▸ far_blk (keepBlk HXl.out HST.out) (show w12.heap.size ≠ w14.heap.size by omega) (.slice Dm km jm) (.int .i64 ql.2))
      have HOm := hd (hWN ▸ (HDm.out.pt (x := (.slice Dm km jm)) (y := (.int .i64 ql.2)) hg).2)
      have HXm := hd (hWN ▸ blk2_both hg (.slice Dm km jm) (.int .i64 ql.2))
      clear hWN hg HST HDm
      obtain ⟨n0, n1, n2, n3, a0, a1, b0, b1⟩ := HK.out _ W23B.out
      have ka0 := later_cell a0
      have ka1 := later_cell a1
      have kb0 := later_cell b0
      have kb1 := later_cell b1
      obtain ⟨zs0, zs1, _, _⟩ := blk2 HXs.out
      have ks0 := later_cell zs0
      have ks1 := later_cell zs1
      obtain ⟨zt0, zt1, _, _⟩ := blk2 HXt.out
      have kt0 := later_cell zt0
      have kt1 := later_cell zt1
      obtain ⟨zx0, zx1, _, _⟩ := blk2 HXx.out
      have kx0 := later_cell zx0
      have kx1 := later_cell zx1
      obtain ⟨zy0, zy1, _, _⟩ := blk2 HXy.out
      have ky0 := later_cell zy0
      have ky1 := later_cell zy1
      obtain ⟨zf0, zf1, _, _⟩ := blk2 HXf.out
      have kf0 := later_cell zf0
      have kf1 := later_cell zf1
      obtain ⟨zg0, zg1, _, _⟩ := blk2 HXg.out
      have kg0 := later_cell zg0
      have kg1 := later_cell zg1
      obtain ⟨zl0, zl1, _, _⟩ := blk2 HXl.out
      have kl0 := later_cell zl0
      have kl1 := later_cell zl1
      obtain ⟨zm0, zm1, _, _⟩ := blk2 HXm.out
      have km0 := later_cell zm0
      have km1 := later_cell zm1
      have HPs := hd (show PtAt W23 (.agg #[.slice As P.1.length cs, .int .i64 P.2]) P from PtAt.of_new HOs.out HPs0.out)
      have HPt := hd (show PtAt W23 (.agg #[.slice At Q.1.length ct, .int .i64 Q.2]) Q from PtAt.of_new HOt.out HQs0.out)
      have HPx := hd (show PtAt W23 (.agg #[.slice Ax P.1.length cx, .int .i64 P.2]) P from PtAt.of_new HOx.out HPs0.out)
      have HPy := hd (show PtAt W23 (.agg #[.slice Ay Q.1.length cy, .int .i64 Q.2]) Q from PtAt.of_new HOy.out HQs0.out)
      have HPf := hd (show PtAt W23 (.agg #[.slice Df kf jf, .int .i64 qf.2]) qf from PtAt.of_new HOf.out HJf.out)
      have HPg := hd (show PtAt W23 (.agg #[.slice Dg kg jg, .int .i64 qf.2]) qf from PtAt.of_new HOg.out HJf.out)
      have HPl := hd (show PtAt W23 (.agg #[.slice Dl kl jl, .int .i64 ql.2]) ql from PtAt.of_new HOl.out HJl.out)
      have HPm := hd (show PtAt W23 (.agg #[.slice Dm km jm, .int .i64 ql.2]) ql from PtAt.of_new HOm.out HJl.out)
      have HPA9 := hd (HPA.out.later W23B.out)
      have HPB9 := hd (HPB.out.later W23B.out)
      have HQ := fun u : Later W23.heap.size W23 => hd u.2
      clear n0 n1 n2 n3 a0 a1 b0 b1 zs0 zs1 HXs HOs zt0 zt1 HXt HOt zx0 zx1 HXx HOx zy0 zy1 HXy HOy zf0 zf1 HXf HOf zg0 zg1 HXg HOg zl0 zl1 HXl HOl zm0 zm1 HXm HOm HK
      refine wp_region_later W23.heap.size (by kernel_rfl) (by kernel_rfl) ?_
      repeat (go_big_quiet_step (first
        | (go_at_call 24; exact later_in (Nat.le_refl _) (rsame_self (HQ _).out (by first | exact HPf.out | exact HPl.out | exact HPs.out | exact HPt.out) (by first | exact HPg.out | exact HPm.out | exact HPx.out | exact HPy.out)))
        | (go_at_call 24; exact later_in (Nat.le_refl _) (rsame_at (HQ _).out HPA9.out HPB9.out))
        | (go_at_call 29; exact later_in (Nat.le_refl _) (cmp_at (HQ _).out HPA9.out HPB9.out))
        | (go_at_call 30; exact later_in (Nat.le_refl _) (rcmp_at (HQ _).out HPA9.out HPB9.out))
        | (go_at_call 31; exact later_in (Nat.le_refl _) (same_at (HQ _).out HPA9.out HPB9.out))))
      refine wpQuiet_nil ?_
      intro _ hu
      obtain ⟨⟨w24, hw24⟩, rfl⟩ := hu
      have HB24 := hd (W23B.out.trans (hw24.mono W23B.out.size))
      clear HQ hw24 ka0 ka1 kb0 kb1 ks0 ks1 kt0 kt1 kx0 kx1 ky0 ky1 kf0 kf1 kg0 kg1 kl0 kl1 km0 km1
      go_wp2
      refine bodyPost_ret (v := .bool true) (by simp [results, Try.results4, go_sem]) rfl ⟨rfl, HB0.out.trans (HB24.out.mono HB0.out.size)⟩

end Go.Proofs.Ytjolmnghoigggaa
