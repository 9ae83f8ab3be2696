/- hasKid, Get, and the document's Get. -/
import Derived.Test.YtmkciabefepelaaGreatJTTree
import Derived.IntWalk
set_option maxRecDepth 4000
set_option maxHeartbeats 8000000
namespace Go.Proofs.YtmkciabefepelaaGreat
open Go.RowKit
theorem zD6 (n : NT) (i : Int) (r : Bool) (hr : zOf n i = r) (d : Nat) (w : World) (v : Value) (hn : zV d w w.heap.size v n) :
  Calls Tryz.prog 74 #[v, .int .i64 i] w (jA (.bool r) w) := by
 obtain ⟨d', lf, ps, tx, ks, PA, pc, TA, tc, KA, kc, hd', rfl, rfl, hp, ht, hf, hks⟩ := hn.open_
 have hl3 := hf.2.2.2.1
 have HB := hd (show Below w.heap.size w (w.alloc (.cells #[.bool lf, .slice PA ps.length pc, .slice TA tx.length tc, .slice KA ks.length kc] 26)) from (Below.refl _ _).alloc (Nat.le_refl _) _)
 have hr' : (decide (0 <= i) && decide (i < ks.length)) = r := hr
 clear hn hp ht hf hks hd' hr
 by_cases h1 : 0 <= i
 ·by_cases h2 : i < ks.length
  ·have HF := hd (show r = true by rw [<- hr']; simp [h1, h2])
   clear hr'
   go_enter Tryz.func74, Tryz.ntmps74
   go_wp2
   go_ret
   exact ⟨kC HF.out.symm, HB.out⟩
  ·have HF := hd (show r = false by rw [<- hr']; simp [h2])
   have h3 : decide (i < (ks.length : Int)) = false := decide_eq_false h2
   clear hr'
   go_enter Tryz.func74, Tryz.ntmps74
   go_wp2
   go_ret
   exact ⟨kC HF.out.symm, HB.out⟩
 ·have HF := hd (show r = false by rw [<- hr']; simp [h1])
  have h3 : decide (0 <= i) = false := decide_eq_false h1
  clear hr'
  go_enter Tryz.func74, Tryz.ntmps74
  go_wp2
  go_ret
  exact ⟨kC HF.out.symm, HB.out⟩
def zP2 (r : NT × Int) (w : World) (e : Ending) (w' : World) : Prop :=
 ∃ v d, e = .returned (.tuple #[v, .int .i64 r.2]) /\ zAx (fun b => w.heap.size <= b /\ b < w'.heap.size) d w' v r.1 /\ Below w.heap.size w w'
theorem zJv {r : NT × Int} {n : NT} {e : Int} {w w' : World} {v : Value} {d : Nat} (h : r = (n, e)) (ht : zAx (fun b => w.heap.size <= b /\ b < w'.heap.size) d w' v n) (hb : Below w.heap.size w w') : zP2 r w (.returned (.tuple #[v, .int .i64 e])) w' := by
 subst h; exact ⟨v, d, rfl, ht, hb⟩
structure zM2 (w : World) (d : Nat) (n : NT) (p : List Int) (k : Nat) (lf : Bool) (PA : Option Addr) (np pc : Nat) (TA : Option Addr) (nt tc : Nat) (KA : Option Addr) (nk kc : Nat) (m : NT) (wr : World) : Prop where
 below : Below w.heap.size w wr
 res : wr.heap[w.heap.size + 1]? = some (.cells #[.bool false, .slice none 0 0, .slice none 0 0, .slice none 0 0] 26 (0, 0))
 var : wr.heap[w.heap.size]? = some (.cells #[.bool lf, .slice PA np pc, .slice TA nt tc, .slice KA nk kc] 26 (0, 0))
 at_ : kB n (p.take k) = some m
 node : zV d wr w.heap.size (.agg #[.bool lf, .slice PA np pc, .slice TA nt tc, .slice KA nk kc]) m
theorem zBj (w : World) (a b c d : Value) (t : TypeId) (a' b' c' d' : Value) (t' : TypeId) :
  ((w.alloc (.cells #[a, b, c, d] t)).alloc (.cells #[a', b', c', d'] t')).heap[w.heap.size]? = some (.cells #[a, b, c, d] t (0, 0)) /\ ((w.alloc (.cells #[a, b, c, d] t)).alloc (.cells #[a', b', c', d'] t')).heap[w.heap.size + 1]? = some (.cells #[a', b', c', d'] t' (0, 0)) := by
 refine ⟨?_, ?_⟩
 ·rw [Below.heap_alloc _ _ _ (by simp)]; exact heap_alloc_new _ _
 ·rw [<- sz1 (w := w) (A := .cells #[a, b, c, d] t)]; exact heap_alloc_new _ _
theorem zRv {w : World} {d : Nat} {n : NT} {p : List Int} {lf : Bool} {PA : Option Addr} {np pc : Nat} {TA : Option Addr} {nt tc : Nat} {KA : Option Addr} {nk kc : Nat} (hn : zV d w w.heap.size (.agg #[.bool lf, .slice PA np pc, .slice TA nt tc, .slice KA nk kc]) n) :
  zM2 w d n p 0 lf PA np pc TA nt tc KA nk kc n ((w.alloc (.cells #[.bool lf, .slice PA np pc, .slice TA nt tc, .slice KA nk kc] 26)).alloc (.cells #[.bool false, .slice none 0 0, .slice none 0 0, .slice none 0 0] 26)) := by
 have hb := kM (w := w) (w' := w) (o := (.cells #[.bool lf, .slice PA np pc, .slice TA nt tc, .slice KA nk kc] 26)) (o' := (.cells #[.bool false, .slice none 0 0, .slice none 0 0, .slice none 0 0] 26)) (Below.refl _ _) (Nat.le_refl w.heap.size)
 obtain ⟨h1, h2⟩ := zBj w (.bool lf) (.slice PA np pc) (.slice TA nt tc) (.slice KA nk kc) 26 (.bool false) (.slice none 0 0) (.slice none 0 0) (.slice none 0 0) 26
 exact ⟨hb, h2, h1, rfl, hn.below hb⟩
theorem zU8 {w wr w2 : World} {d : Nat} {n m m2 : NT} {p : List Int} {k : Nat} {lf : Bool} {PA : Option Addr} {np pc : Nat} {TA : Option Addr} {nt tc : Nat} {KA : Option Addr} {nk kc : Nat} {lf2 : Bool} {PA2 : Option Addr} {np2 pc2 : Nat} {TA2 : Option Addr} {nt2 tc2 : Nat} {KA2 : Option Addr} {nk2 kc2 : Nat}
  (h : zM2 w d n p k lf PA np pc TA nt tc KA nk kc m wr) (hb : Below wr.heap.size wr w2) (hm : kB n (p.take (k + 1)) = some m2) (hn : zV d w2 w.heap.size (.agg #[.bool lf2, .slice PA2 np2 pc2, .slice TA2 nt2 tc2, .slice KA2 nk2 kc2]) m2) :
  zM2 w d n p (k + 1) lf2 PA2 np2 pc2 TA2 nt2 tc2 KA2 nk2 kc2 m2 ((((w2.setCell ⟨w.heap.size, 0, none⟩ (.bool lf2)).setCell ⟨w.heap.size, 1, none⟩ (.slice PA2 np2 pc2)).setCell ⟨w.heap.size, 2, none⟩ (.slice TA2 nt2 tc2)).setCell ⟨w.heap.size, 3, none⟩ (.slice KA2 nk2 kc2)) := by
 have hs := h.below.size
 have hb2 : Below w.heap.size w w2 := h.below.trans (hb.mono hs)
 have hbx : Below w.heap.size w ((((w2.setCell ⟨w.heap.size, 0, none⟩ (.bool lf2)).setCell ⟨w.heap.size, 1, none⟩ (.slice PA2 np2 pc2)).setCell ⟨w.heap.size, 2, none⟩ (.slice TA2 nt2 tc2)).setCell ⟨w.heap.size, 3, none⟩ (.slice KA2 nk2 kc2)) := (((hb2.setCell (Nat.le_refl _) _).setCell (Nat.le_refl _) _).setCell (Nat.le_refl _) _).setCell (Nat.le_refl _) _
 have hb2x : Below w.heap.size w2 ((((w2.setCell ⟨w.heap.size, 0, none⟩ (.bool lf2)).setCell ⟨w.heap.size, 1, none⟩ (.slice PA2 np2 pc2)).setCell ⟨w.heap.size, 2, none⟩ (.slice TA2 nt2 tc2)).setCell ⟨w.heap.size, 3, none⟩ (.slice KA2 nk2 kc2)) := ((((Below.refl w.heap.size w2).setCell (Nat.le_refl _) _).setCell (Nat.le_refl _) _).setCell (Nat.le_refl _) _).setCell (Nat.le_refl _) _
 refine ⟨hbx, ?_, kD ((hb.block _ (lt_of_block h.var)).trans h.var), hm, hn.below hb2x⟩
 iterate 4 rw [Below.heap_setCell _ _ _ _ (by show w.heap.size + 1 ≠ w.heap.size; omega)]
 exact (hb.block _ (lt_of_block h.res)).trans h.res
set_option maxRecDepth 100000 in
theorem zU9 (d : Nat) (w : World) (v : Value) (n : NT) (A : Option Addr) (p : List Int) (lp c : Nat) (hlp : p.length = lp) (hl : lp <= 10000000) (hn : zV d w w.heap.size v n) (hp : IL w w.heap.size A p) :
  Calls Tryz.prog 30 #[v, .slice A lp c] w (zP2 (zGm n p) w) := by
 obtain ⟨lf, PA, np, pc, TA, nt, tc, KA, nk, kc, rfl⟩ := hn.val
 have HL0 := hd (zRv (p := p) hn)
 have HP := hd hp
 have HLP := hd hlp
 clear hn hp hlp
 go_enter Tryz.func30, Tryz.ntmps30
 go_wp2
 go_loopw [10] (fun i wr => ∃ (k : Nat) (lf : Bool) (PA : Option Addr) (np pc : Nat) (TA : Option Addr) (nt tc : Nat) (KA : Option Addr) (nk kc : Nat) (m : NT), k <= lp /\ i = .int .i64 k /\ Hid (zM2 w d n p k lf PA np pc TA nt tc KA nk kc m wr)) (fun i _ => lp - (intOf i).toNat)
 case atStart => exact ⟨0, _, _, _, _, _, _, _, _, _, _, n, Nat.zero_le _, rfl, HL0⟩
 case round =>
  clear HL0
  obtain ⟨k, lf, PA, np, pc, TA, nt, tc, KA, nk, kc, m, hk, rfl, HL⟩ := hrel
  have hbr := HL.out.below
  have hsz := hbr.size
  obtain ⟨x0, x1, x2, x3, y0, y1, y2, y3⟩ := zJ HL.out.var
  obtain ⟨z0, z1, z2, z3, f0, f1, f2, f3⟩ := zJ HL.out.res
  have hl1 := lt_of_block HL.out.res
  by_cases hlt : k < lp
  ·obtain ⟨b, o, rfl, hbl, hc⟩ := (HP.out.below hbr).at_ (k := k) (by rw [HLP.out]; exact hlt)
   obtain ⟨i, hi⟩ : ∃ i, iAt p k = i := ⟨_, rfl⟩
   rw [hi] at hc
   have hnode := HL.out.node
   obtain ⟨d', lf', ps, tx, ks, PA', pc', TA', tc', KA', kc', hd', hm', ev, hps, htx, hfit, hks⟩ := hnode.open_
   simp only [Value.agg.injEq, Array.mk.injEq, List.cons.injEq, Value.bool.injEq, Value.slice.injEq, and_true] at ev
   obtain ⟨rfl, ⟨rfl, rfl, rfl⟩, ⟨rfl, rfl, rfl⟩, rfl, rfl, rfl⟩ := ev
   have hl3 := hfit.2.2.2.1
   cases hb : zOf m i
   ·have HE := hd (zB2 (zRy (by rw [HLP.out]; exact hlt) HL.out.at_ (by rw [hi]; exact zJx hb)))
    have HC := hd (zD6 m i false hb d wr _ ((hnode.more hsz)))
    have HBR := hd hbr
    have HRES := hd HL.out.res
    have hnk : m.ks.length = ks.length := by rw [hm']; rfl
    have hno : i < 0 ∨ 0 <= i /\ (ks.length : Int) <= i := by
     rcases (show i < 0 ∨ 0 <= i by omega) with h | h
     ·exact .inl h
     ·refine .inr ⟨h, ?_⟩
      rcases (show (ks.length : Int) <= i ∨ i < ks.length by omega) with h2 | h2
      ·exact h2
      ·rw [zEx.2 ⟨h, by rw [hnk]; exact h2⟩] at hb; cases hb
    clear hnode hps htx hfit hks hb hi hm' hd' hbr hnk
    rcases hno with g1 | ⟨g1, g2⟩
    all_goals
     go_wp2_with (first | (go_at_call 74; refine HC.out.mono ?_; rintro e w2 ⟨rfl, b2⟩; have HR2 := hd (kI HRES.out b2); have hl2 := b2.size; obtain ⟨r0, r1, r2, r3, r4, r5, r6, r7⟩ := zJ HR2.out))
     have h7 := kD (a := .bool false) (b := .slice none 0 0) (c := .slice none 0 0) (d := .slice none 0 0) (by first | exact HR2.out | exact HRES.out)
     obtain ⟨t0, t1, t2, t3, _, _, _, _⟩ := zJ h7
     refine bodyPost_ret (v := .tuple #[.agg #[.bool false, .slice none 0 0, .slice none 0 0, .slice none 0 0], .int .i64 5]) (by simp [results, Tryz.results30, go_sem, t0, t1, t2, t3]) rfl (zJv HE.out (zBs _ 0 _) ?_)
     exact ((((show Below w.heap.size w _ from (by first | exact HBR.out.trans (b2.mono HBR.out.size) | exact HBR.out)).setCell (by show _ <= w.heap.size + 1; omega) _).setCell (by show _ <= w.heap.size + 1; omega) _).setCell (by show _ <= w.heap.size + 1; omega) _).setCell (by show _ <= w.heap.size + 1; omega) _
   ·have HK := hd (zEx.1 hb)
    obtain ⟨j, hj⟩ : ∃ j : Nat, i = (j : Int) := ⟨i.toNat, by have := HK.out; omega⟩
    subst hj
    have hj1 : j < ks.length := by have := HK.out; rw [hm'] at this; simp only [NT.ks] at this; omega
    have HC := hd (zD6 m (j : Int) true hb d wr _ ((hnode.more hsz)))
    have HKS := hd hks
    have HI := hd hi
    have HM := hd hm'
    have HD := hd hd'
    have HBR := hd hbr
    clear hnode hps htx hfit hks hb hi hm' hd' z0 z1 z2 z3 f0 f1 f2 f3 hbr
    have HVAR := hd HL.out.var
    obtain ⟨m2, b', o', lf2, PA2, np2, pc2, TA2, nt2, tc2, KA2, nk2, kc2, hm2, rfl, hbg2, hnm2, c0, c1, c2, c3⟩ := HKS.out.at_ hj1
    have hg := hd (show kB n (p.take (k + 1)) = some m2 by rw [zFv (by rw [HLP.out]; exact hlt) HL.out.at_, HI.out]; unfold zBh; rw [if_pos (by omega), HM.out]; exact hm2)
    have HN2 := hd (hnm2.deep (d' := d) (by have := HD.out; omega))
    have HM2 := hd hm2
    clear hnm2 hm2
    go_wp2_with (first | (go_at_call 74; refine HC.out.mono ?_; rintro e w2 ⟨rfl, b2⟩; have hl2 := b2.size; obtain ⟨u0, u1, u2, u3, u4, u5, u6, u7⟩ := zJ (kI HVAR.out b2); have e0 := (b2.cell (kQ c0)).trans c0; have e1 := (b2.cell (kQ c1)).trans c1; have e2 := (b2.cell (kQ c2)).trans c2; have e3 := (b2.cell (kQ c3)).trans c3; clear c0 c1 c2 c3 x0 x1 x2 x3 y0 y1 y2 y3))
    go_roundw
    case rel => exact ⟨k + 1, _, _, _, _, _, _, _, _, _, _, m2, by omega, by go_num, hd (zU8 HL.out (by first | exact b2 | exact Below.refl _ _) hg.out (by first | exact HN2.out.below (b2.mono hsz) | exact HN2.out))⟩
    case measure => simp [intOf]; omega
  ·have HE := hd (kP (n := n) (m := m) (p := p) (by have := HL.out.at_; rwa [List.take_of_length_le (by rw [HLP.out]; omega)] at this))
   have HRES := hd HL.out.res
   have HBR := hd hbr
   have HN := hd (HL.out.node.more hsz)
   clear z0 z1 z2 z3 f0 f1 f2 f3 hbr
   go_wp2_with (first | (go_at_call 75; refine Calls.mono (zEy _ _ _ _ HN.out) ?_; intro e w4 h4; obtain ⟨v4, rfl, ht4, hb4⟩ := h4; obtain ⟨lf4, PA4, np4, pc4, TA4, nt4, tc4, KA4, nk4, kc4, rfl⟩ := (ht4.at_ (B := w4.heap.size) (fun b hb => hb.2)).val; have HR4 := hd (kI HRES.out hb4); obtain ⟨r0, r1, r2, r3, r4, r5, r6, r7⟩ := zJ HR4.out; have HT4 := hd ht4; have HB4 := hd hb4; have hl4 := hb4.size; clear ht4 hb4))
   have h7 := kD (a := .bool lf4) (b := .slice PA4 np4 pc4) (c := .slice TA4 nt4 tc4) (d := .slice KA4 nk4 kc4) HR4.out
   obtain ⟨t0, t1, t2, t3, _, _, _, _⟩ := zJ h7
   have hb7 : Below w.heap.size w w4 := HBR.out.trans (HB4.out.mono HBR.out.size)
   refine bodyPost_ret (v := .tuple #[.agg #[.bool lf4, .slice PA4 np4 pc4, .slice TA4 nt4 tc4, .slice KA4 nk4 kc4], .int .i64 0]) (by simp [results, Tryz.results30, go_sem, t0, t1, t2, t3]) rfl (zJv (d := d) HE.out (HT4.out.keep (fun b hb => by simp; omega) (fun p hp => ?_)) ?_)
   ·have hne : p.block ≠ w.heap.size + 1 := by omega
    constructor
    ·iterate 4 rw [World.cell?_setCell_other _ _ _ _ (by intro e; exact hne (by rw [<- e]))]
    ·iterate 4 rw [World.frozen?_of_block (Below.heap_setCell _ _ _ _ (by simpa using hne))]
   ·exact (((hb7.setCell (by show _ <= w.heap.size + 1; omega) _).setCell (by show _ <= w.heap.size + 1; omega) _).setCell (by show _ <= w.heap.size + 1; omega) _).setCell (by show _ <= w.heap.size + 1; omega) _
end Go.Proofs.YtmkciabefepelaaGreat
namespace Go.Proofs.YtmkciabefepelaaGreat
open Go.RowKit
open Go.WideShapes (add_plain)
theorem zRw (A : Option Addr) (n c k : Nat) (hk : k <= c) : ∀ W : World, (Instr.slice 24 (.slice A n c) none (some (.int .i64 (k : Int))) none).run Tryz.prog W = .ok (.slice A k c) W := fun W => by
 have he : Tryz.prog.elem 24 = 26 := by kernel_rfl
 have hs : ∀ W, (sizeOf 26).run Tryz.prog W = .ok 4 W := fun _ => by kernel_rfl
 rw [run_slice_h W 24 A n c (by rw [he]; exact Tryz.underlying24) .i64 _ (by omega) (by omega), he, hs]
 have e : (A.map fun x => x.add 0) = A := by
  cases A
  ·rfl
  ·simp [Addr.add]
 simp [Result.andThen, sliced, e]
theorem zKn.drop {d : Nat} {w : World} {B : Nat} {A : Option Addr} {ks : List NT} (h : zKn d w B A ks) (k c : Nat) (hc : ks.length <= c) : zKn d w B (if c = k then A else A.map (·.add (k * 4))) (ks.drop k) := fun j m hm => by
 rw [List.getElem?_drop] at hm
 have hl := (List.getElem?_eq_some_iff.1 hm).1
 obtain ⟨b, o, u, rfl, hb, hn, c0, c1, c2, c3, e, h0, h1, h2, h3⟩ := h _ m hm
 rw [if_neg (by omega)]
 have e1 : o + k * 4 + j * 4 = o + (k + j) * 4 := by omega
 exact ⟨b, o + k * 4, u, by simp [add_plain], hb, hn, c0, c1, c2, c3, e, by rw [e1]; exact h0, by rw [e1]; exact h1, by rw [e1]; exact h2, by rw [e1]; exact h3⟩
theorem zVa (A : Option Addr) (n c k : Nat) (hk : k <= n) (hc : n <= c) : ∃ D : Option Addr, (∀ (d : Nat) (w : World) (B : Nat) (ks : List NT), zKn d w B A ks -> ks.length = n -> zKn d w B D (ks.drop k)) /\
  (∀ W : World, (Instr.slice 24 (.slice A n c) (some (.int .i64 (k : Int))) none none).run Tryz.prog W = .ok (.slice D (n - k) (c - k)) W) := by
 refine ⟨if c = k then A else A.map (·.add (k * 4)), fun d w B ks h hx => h.drop k c (by omega), fun W => ?_⟩
 have he : Tryz.prog.elem 24 = 26 := by kernel_rfl
 have hs : ∀ W, (sizeOf 26).run Tryz.prog W = .ok 4 W := fun _ => by kernel_rfl
 rw [run_slice_l W 24 A n c (by rw [he]; exact Tryz.underlying24) .i64 _ (by omega) (by omega), he, hs]
 simp [Result.andThen, sliced]
theorem zK7 {ts te : TypeId} {size by_ : Nat} (E : zQ7 ts te size by_) (W : World) {ops : Array Oper} {rest : List Oper} {o : Oper} {a : Act} {Q : Exit -> Act -> World -> Prop} (hgd : o.guard = none) (s x : Operand)
  (ho : o.op = .call { callee := .builtin .append, args := #[s, x], argTypes := #[ts, ts] })
  (b : Nat) (v : Value) (n : Nat) (k : List Value) (hs : a.eval s = v) (hO : W.ownsRow b te size v n k) (A : Option Addr) (m c B : Nat) (l : List Value) (hx : a.eval x = .slice A m c) (hn : l.length = m * size) (hp : VL W B A l) (h1 : ∀ u ∈ l, u.oneCell' = true)
  (h63 : n + m <= maxLen) (hby : (n + m) * by_ <= 140737488355328) (hb : b <= W.heap.size)
  (hK : ∀ A' c' w', w'.ownsRow b te size (.slice A' (n + m) c') (n + m) (k ++ l) -> W.grownBy w' v.ownBlock -> ((Value.slice A' (n + m) c').ownBlock = v.ownBlock ∨ ∃ g, (Value.slice A' (n + m) c').ownBlock = some g /\ W.heap.size <= g) -> wpList Tryz.prog ops Q rest (a.put o.dst (.slice A' (n + m) c')) w') :
  wpList Tryz.prog ops Q (o :: rest) a W := by
 obtain ⟨i0, z, hi, hz0, hz1, hz2, hz3⟩ := E.info
 have hsz := E.pos
 rcases Nat.eq_zero_or_pos m with hm | hm
 ·subst hm
  have hl : l = [] := List.eq_nil_of_length_eq_zero (by simpa using hn)
  subst hl
  obtain ⟨A0, c0, rfl, _⟩ := zC9 hO
  refine wpList_plain hgd fun K hK2 => ?_
  have hrun := zEp (w := W) (ty := o.type) (A := A) (c := c) E.under hi hO
  unfold Oper.wp execOp
  simp only [ho, resolve, invoke, builtin, Sem.run_bind, Sem.run_pure, Result.andThen_ok, List.map_toArray, List.map_cons, List.map_nil, hs, hx, hrun]
  exact hK2 _ _ (hK A0 c0 W (by simpa using hO) ⟨rfl, rfl, rfl, Nat.le_refl _, fun _ _ _ => rfl⟩ (.inl (by cases A0 <;> rfl)))
 ·have hl : 0 < l.length := by have := Nat.mul_pos hm hsz; omega
  obtain ⟨b', o', rfl, _, hc⟩ := hp (List.length_pos_iff.1 hl)
  refine wpList_plain hgd fun K hK2 => ?_
  refine wp_append_lies W s x ts ho b te i0 z size by_ E.under hi hz0 hz1 hz2 hz3 hsz v n k hs hO ⟨b', o', none⟩ m c l hx hn (fun j u hj => by rw [add_plain]; exact hc j u hj) h1 hm h63 hby hb W.heap.size rfl (fun g cap w' h1 h2 h3 _ => hK2 _ _ (hK _ cap w' h1 h2 ?_))
  rcases h3 with e | e
  ·exact .inl (by rw [e]; rfl)
  ·exact .inr ⟨g, rfl, by omega⟩
structure zGi (Q : Nat -> Prop) (d : Nat) (w : World) (OA : Option Addr) (us : List Value) (os : List NT) : Prop where
 len : us.length = os.length
 cells : VL w w.heap.size OA (us.flatMap fun u => u.cells.toList)
 trees : ∀ (j : Nat) (m : NT), os[j]? = some m -> ∃ u, us[j]? = some u /\ zAx Q d w u m
theorem zGi.flat {Q : Nat -> Prop} {d : Nat} {w : World} {OA : Option Addr} {us : List Value} {os : List NT} (h : zGi Q d w OA us os) : (us.flatMap fun u => u.cells.toList).length = os.length * 4 /\ ∀ c ∈ us.flatMap fun u => u.cells.toList, c.oneCell' = true := by
 have key : ∀ u ∈ us, ∃ lf PA np pc TA nt tc KA nk kc, u = .agg #[.bool lf, .slice PA np pc, .slice TA nt tc, .slice KA nk kc] := fun u hu => by
  obtain ⟨j, hj, rfl⟩ := List.mem_iff_getElem.1 hu
  obtain ⟨u', hu', ht⟩ := h.trees j _ (List.getElem?_eq_getElem (by rw [<- h.len]; exact hj))
  rw [List.getElem?_eq_getElem hj] at hu'
  injection hu' with hu'
  rw [hu']
  cases d with
  | zero => exact ht.elim
  | succ d => obtain ⟨PA, pc, TA, tc, KA, kc, e, _⟩ := ht; exact ⟨_, _, _, _, _, _, _, _, _, _, e⟩
 constructor
 ·rw [<- h.len]
  have : ∀ l : List Value, (∀ u ∈ l, u.cells.toList.length = 4) -> (l.flatMap fun u => u.cells.toList).length = l.length * 4 := by
   intro l
   induction l with
   | nil => intro _; rfl
   | cons x r ih => intro hx; rw [List.flatMap_cons, List.length_append, hx x (List.mem_cons_self ..), ih (fun u hu => hx u (List.mem_cons_of_mem _ hu)), List.length_cons]; omega
  exact this us fun u hu => by obtain ⟨_, _, _, _, _, _, _, _, _, _, rfl⟩ := key u hu; rfl
 ·intro c hc
  obtain ⟨u, hu, hcu⟩ := List.mem_flatMap.1 hc
  obtain ⟨_, _, _, _, _, _, _, _, _, _, rfl⟩ := key u hu
  simp [Value.cells] at hcu
  rcases hcu with rfl | rfl | rfl | rfl <;> rfl
theorem zGi.nil (Q : Nat -> Prop) (d : Nat) (w : World) (OA : Option Addr) : zGi Q d w OA [] [] := ⟨rfl, VL.nil _ _ _, fun j m h => by simp at h⟩
def kHu (Q : Nat -> Prop) (d : Nat) (n : NT) (w : World) (e : Ending) (w' : World) : Prop :=
 ∃ v, e = .returned v /\ zAx (fun b => (Q b ∨ w.heap.size <= b) /\ b < w'.heap.size) d w' v n /\ Below w.heap.size w w'
theorem zW0 {P : Nat -> Prop} {w4 : World} {base d cap : Nat} {lf : Bool} {ps : List Pr} {tx : List Int} {PA : Option Addr} {pc : Nat} {TA : Option Addr} {tc : Nat} {cs : Array Value} (hbase : base <= w4.heap.size) (hup : ∀ b, base <= b -> P b)
  (hp : VP (fun b => P b /\ b < w4.heap.size) w4 PA (pv ps)) (ht : VP (fun b => P b /\ b < w4.heap.size) w4 TA (rv tx)) (hcs : cs.size = cap * 4) (hcap : cap <= maxLen) :
  zNk P w4 base d lf ps tx w4.heap.size PA pc TA tc (.slice (some ⟨w4.heap.size + 1, 0, none⟩) 0 cap) 0 [] [] ((w4.alloc (.cells #[.bool lf, .slice PA ps.length pc, .slice TA tx.length tc, .slice (some ⟨w4.heap.size + 1, 0, none⟩) 0 cap] 26)).alloc (.cells cs 26)) := by
 obtain ⟨w5, hw5⟩ : ∃ w5, w5 = w4.alloc (.cells #[.bool lf, .slice PA ps.length pc, .slice TA tx.length tc, .slice (some ⟨w4.heap.size + 1, 0, none⟩) 0 cap] 26) := ⟨_, rfl⟩
 have e5 : w5.heap.size = w4.heap.size + 1 := by rw [hw5]; simp
 obtain ⟨w6, hw6⟩ : ∃ w6, w6 = w5.alloc (.cells cs 26) := ⟨_, rfl⟩
 have e6 : w6.heap.size = w4.heap.size + 2 := by rw [hw6]; simp; omega
 have b5 : Below w4.heap.size w4 w5 := hw5 ▸ (Below.refl _ _).alloc (Nat.le_refl _) _
 have b6 : Below w4.heap.size w4 w6 := hw6 ▸ b5.alloc (by omega) _
 have hrow : w6.ownsRow base 26 4 (.slice (some ⟨w4.heap.size + 1, 0, none⟩) 0 cap) 0 [] := by
  have := World.ownsRow_made (base := base) (e := 26) (size := 4) w5 cs cap (by omega) hcap hcs
  rw [e5, <- hw6] at this
  exact this
 have h5 : w6.heap[w4.heap.size]? = some (.cells #[.bool lf, .slice PA ps.length pc, .slice TA tx.length tc, .slice (some ⟨w4.heap.size + 1, 0, none⟩) 0 cap] 26 (0, 0)) := by
  rw [hw6, Below.heap_alloc _ _ _ (by omega), hw5]; exact heap_alloc_new _ _
 rw [<- hw5, <- hw6]
 refine ⟨b6.mono hbase, hbase, hbase, hup, h5, hrow, rfl, rfl, by simp [Value.ownBlock], ?_, ?_, fun j m hm => by simp at hm⟩
 ·exact hp.keep (fun b hb => ⟨hb.1, by omega, by omega, by simp [Value.ownBlock]; omega⟩) (fun p hp => ⟨b6.cell hp.2, b6.frozen hp.2⟩)
 ·exact ht.keep (fun b hb => ⟨hb.1, by omega, by omega, by simp [Value.ownBlock]; omega⟩) (fun p hp => ⟨b6.cell hp.2, b6.frozen hp.2⟩)
set_option maxRecDepth 100000 in
theorem zIe (Q : Nat -> Prop) (d : Nat) (w : World) (hQ : ∀ b, Q b -> b < w.heap.size) (v : Value) (n : NT) (i many no oc : Nat) (I M : Int) (hI : I = i) (hM : M = many) (OA : Option Addr) (us : List Value) (os : List NT) (hn : zV d w w.heap.size v n) (hO : zGi Q d w OA us os) (hno : os.length = no) (hi : i + many <= n.ks.length) (hlen : n.ks.length + no <= 1759218604441 + many) :
  Calls Tryz.prog 132 #[v, .int .i64 I, .int .i64 M, .slice OA no oc] w (kHu Q (d + 1) (jS n i many os) w) := by
 subst hI hM
 obtain ⟨d', lf, ps, tx, ks, PA, pc, TA, tc, KA, kc, hd', rfl, rfl, hp, ht, hf, hks⟩ := hn.open_
 have hi' : i + many <= ks.length := hi
 have hlen' : ks.length + no <= 1759218604441 + many := hlen
 have hl3 := hf.2.2.2.1
 have hkc := hf.2.2.2.2.2.2
 obtain ⟨D, hD, hrunB0⟩ := zVa KA ks.length kc (i + many) hi' hkc
 have hrunA := zRw KA ks.length kc i (by omega)
 have hrunB : ∀ W : World, (Instr.slice 24 (.slice KA ks.length kc) (some (.int .i64 ((i : Int) + (many : Int)))) none none).run Tryz.prog W = .ok (.slice D (ks.length - (i + many)) (kc - (i + many))) W := fun W => by
  have := hrunB0 W
  rwa [Int.natCast_add] at this
 have HD := hd (hD d' w w.heap.size ks hks rfl)
 have hwr : IntKind.i64.wrap ((i : Int) + (many : Int)) = (i : Int) + (many : Int) := IntWalk.i64_in _ (by omega)
 have hdd : d' <= d := by omega
 have HKS := hd (show zKn d w w.heap.size KA ks from fun k m hm => by
  obtain ⟨b, o, u, e, hb, hn, hc⟩ := hks k m hm
  exact ⟨b, o, u, e, hb, hn.deep hdd, hc⟩)
 have HDS := hd (show zKn d w w.heap.size D (ks.drop (i + many)) from fun k m hm => by
  obtain ⟨b, o, u, e, hb, hn, hc⟩ := HD.out k m hm
  exact ⟨b, o, u, e, hb, hn.deep hdd, hc⟩)
 obtain ⟨nb, hnb⟩ : ∃ nb, nb = ks.length - (i + many) := ⟨_, rfl⟩
 rw [<- hnb] at hrunB
 have hnb2 : nb + i + many = ks.length := by omega
 obtain ⟨cs, hcs, hmk⟩ := zGt zWg (i + no + nb) (by omega) (by omega)
 simp only [Int.natCast_add] at hmk
 have HCS := hd hcs
 have HP := hd hp
 have HT := hd ht
 have HF := hd hf
 have HO := hd hO
 have HNO := hd hno
 have HQ := hd hQ
 have HDL := hd (show (ks.drop (i + many)).length = nb by rw [List.length_drop, hnb])
 obtain ⟨wb, hwb⟩ : ∃ wb, wb = (w.alloc (.cells #[.bool lf, .slice PA ps.length pc, .slice TA tx.length tc, .slice KA ks.length kc] 26)).alloc (.cells #[.bool false, .slice none 0 0, .slice none 0 0, .slice none 0 0] 26) := ⟨_, rfl⟩
 have HB0 := hd (show Below w.heap.size w wb from hwb ▸ kM (Below.refl _ _) (Nat.le_refl _))
 have HSB := hd (show wb.heap.size = w.heap.size + 2 by rw [hwb]; simp)
 have HTB := hd (show wb.heap[w.heap.size]? = some (.cells #[.bool lf, .slice PA ps.length pc, .slice TA tx.length tc, .slice KA ks.length kc] 26 (0, 0)) /\ wb.heap[w.heap.size + 1]? = some (.cells #[.bool false, .slice none 0 0, .slice none 0 0, .slice none 0 0] 26 (0, 0)) from hwb ▸ zBj w _ _ _ _ _ _ _ _ _ _)
 obtain ⟨x0, x1, x2, x3, y0, y1, y2, y3⟩ := zJ HTB.out.1
 have hlb : w.heap.size + 1 < wb.heap.size := lt_of_block HTB.out.2
 have HCP := fun (w' : World) (hb : Below w.heap.size w w') => hd (zEy (d' + 1) w' _ (.mk lf ps tx []) (zV.shut rfl rfl rfl ((HP.out.below hb).more hb.size) ((HT.out.below hb).more hb.size) (show zU0 ps tx.length ([] : List NT).length pc tc 0 from ⟨HF.out.1, HF.out.2.1, HF.out.2.2.1, by simp, HF.out.2.2.2.2.1, HF.out.2.2.2.2.2.1, by simp⟩) (KA := none) (fun k m hm => by simp at hm)))
 clear hn hp ht hf hks hO hno hQ hd' hD hrunB0 HD hi hlen hdd hcs hnb
 go_enter Tryz.func132, Tryz.ntmps132
 subst hwb
 go_wp2_with fail
 go_quiet (fail)
 obtain ⟨P, hPd⟩ : ∃ P : Nat -> Prop, P = fun b => Q b ∨ w.heap.size + 2 <= b := ⟨_, rfl⟩
 have HPD := hd hPd
 clear hPd
 have hsum : i + no + nb <= 1759218604441 := by omega
 clear x0 x1 x2 x3 y0 y1 y2 y3
 obtain ⟨x0, x1, x2, x3, y0, y1, y2, y3⟩ := zJ HTB.out.1
 go_wp2_with (first | (go_at_call 75; refine Calls.mono (HCP _ ((zZ HB0.out nq).setCell (by show _ <= w.heap.size; exact Nat.le_refl _) _)).out ?_; intro e w4 h4; obtain ⟨v4, rfl, ht4, hb4⟩ := h4; obtain ⟨PA4, pc4, TA4, tc4, KA4, kc4, e4, hvp4, hvt4, hf4, _⟩ := ht4; have e5 : v4 = .agg #[.bool lf, .slice PA4 ps.length pc4, .slice TA4 tx.length tc4, .slice KA4 0 kc4] := e4; clear e4; subst e5))
 have hs3 : (((((w.alloc (.cells #[.bool lf, .slice PA ps.length pc, .slice TA tx.length tc, .slice KA ks.length kc] 26)).alloc (.cells #[.bool false, .slice none 0 0, .slice none 0 0, .slice none 0 0] 26)).drewN nq).setCell ⟨w.heap.size, 3, none⟩ (.slice none 0 0))).heap.size = w.heap.size + 2 := by simp
 have hb4s := hb4.size
 rw [hs3] at hb4s hb4 hvp4 hvt4
 have HR4 := hd (show w4.heap[w.heap.size + 1]? = some (.cells #[.bool false, .slice none 0 0, .slice none 0 0, .slice none 0 0] 26 (0, 0)) from (hb4.block _ (by omega)).trans ((Below.heap_setCell _ _ _ _ (by show w.heap.size + 1 ≠ w.heap.size; omega)).trans HTB.out.2))
 have HW4 := hd (show Below w.heap.size w w4 from ((zZ HB0.out nq).setCell (by show _ <= w.heap.size; exact Nat.le_refl _) _).trans (hb4.mono (by omega)))
 have HFC := hd (show ps.length <= pc4 /\ tx.length <= tc4 from ⟨hf4.2.2.2.2.1, hf4.2.2.2.2.2.1⟩)
 have HBB := hd (zW0 (P := P) (w4 := w4) (base := w.heap.size + 2) (d := d) (cap := i + no + nb) (lf := lf) (ps := ps) (tx := tx) (PA := PA4) (pc := pc4) (TA := TA4) (tc := tc4) (cs := cs) (by omega) (fun b h => by rw [HPD.out]; exact .inr h)
  (hvp4.keep (fun b h => ⟨by rw [HPD.out]; exact .inr h.1, h.2⟩) (fun _ _ => ⟨rfl, rfl⟩)) (hvt4.keep (fun b h => ⟨by rw [HPD.out]; exact .inr h.1, h.2⟩) (fun _ _ => ⟨rfl, rfl⟩)) HCS.out (by unfold maxLen; omega))
 clear hb4 hvp4 hvt4 hf4 hs3 x0 x1 x2 x3 y0 y1 y2 y3 hrunA hrunB hwr hmk HCP HTB
 go_loopw [41] (fun idx wr => ∃ (k : Nat) (vK : Value) (us1 : List Value), k <= i /\ idx = .int .i64 k /\ Hid (zNk P w4 (w.heap.size + 2) d lf ps tx w4.heap.size PA4 pc4 TA4 tc4 vK k us1 ((ks.take i).take k) wr)) (fun idx _ => i - (intOf idx).toNat)
 case atStart => exact ⟨0, _, _, Nat.zero_le _, rfl, HBB⟩
 case round =>
  obtain ⟨k, vK, us1, hk, rfl, HL⟩ := hrel
  clear HBB
  have hbr := HW4.out.trans (HL.out.below.mono (by omega))
  by_cases hlt : k < i
  ·          obtain ⟨m, b, o, lf1, PA1, np1, pc1, TA1, nt1, tc1, KA1, nk1, kc1, hm, rfl, hbg, hnm, c0, c1, c2, c3⟩ := (HKS.out.below hbr).at_ (show k < ks.length by omega)
             have hsz := hbr.size
             have hOr := HL.out.out
             have hOlt := lt_of_block hOr
             have HM := hd hm
             obtain ⟨A, cap, rfl, hkc, hcm, _⟩ := zC9 HL.out.row
             obtain ⟨p0, p1, p2, p3, g0, g1, g2, g3⟩ := zJ hOr
             obtain ⟨wk, hwk⟩ : ∃ wk, wk = (wr.alloc (.cells #[.bool lf1, .slice PA1 np1 pc1, .slice TA1 nt1 tc1, .slice KA1 nk1 kc1] 26)).drew := ⟨_, rfl⟩
             have hbk : Below wr.heap.size wr wk := hwk ▸ ((Below.refl _ _).alloc (Nat.le_refl _) _).drew
             have HC := hd (zEy d wk _ m (((hnm.more hsz).below hbk).more hbk.size))
             have HBK := hd hbk
             have hgkO := HL.out.apart
             have hbs := HL.out.bs
             have hbl := HL.out.below.size
             have HTK := hd (show (ks.take i).take k ++ [m] = (ks.take i).take (k + 1) from ((zPd (by rw [List.getElem?_take, if_pos hlt]; exact HM.out)).symm))
             obtain ⟨i0, hi, hz0, hz1, hz2⟩ := info_parts zJj
             subst hwk
             clear hnm hbk hm hOr hbr
             go_upto_block 1 with fail
             go_cut [41] (fun s wx => s = .int .i64 k /\ ∃ (vK6 : Value) (us6 : List Value), Hid (zNk P w4 (w.heap.size + 2) d lf ps tx w4.heap.size PA4 pc4 TA4 tc4 vK6 (k + 1) us6 ((ks.take i).take (k + 1)) wx))
             case first =>
              go_wp2_with fail
              go_region_law (first
                | ((go_simp; go_at_call 75; refine HC.out.mono ?_; intro e w5 h5; obtain ⟨v5, rfl, ht5, hb5⟩ := h5; obtain ⟨lf5, PA5, np5, pc5, TA5, nt5, tc5, KA5, nk5, kc5, rfl⟩ := (ht5.at_ (B := w5.heap.size) (fun b hb => hb.2)).val; obtain ⟨hs5, hbl5⟩ := zIk hb5; have hO5 := hd ((hbl5 w4.heap.size hOlt).trans HL.out.out); obtain ⟨r0, r1, r2, r3, r4, r5, r6, r7⟩ := zJ hO5.out; have hOl5 : w4.heap.size < w5.heap.size := (by omega); have hrow5 := hd (zG5 HL.out.row hbl5); have HBL5 := hd hbl5; clear hbl5; have HB5 := hd hb5; have HT5 := hd ht5; clear ht5 hb5))
                | ((refine step_append_lies _ (by rfl) (.tmp 46) (.tmp 49) _ (by rfl) (w.heap.size + 2) 26 i0 _ 4 80 Tryz.underlying24 hi hz0 hz1 hz2 rfl (by omega) (.slice A (k) cap) (k) (us1.flatMap fun u => u.cells.toList) (by first | rfl | simp [Act.eval]) (hrow5.out.alloc _) ⟨w5.heap.size, 0, none⟩ 1 1 [.bool lf5, .slice PA5 np5 pc5, .slice TA5 nt5 tc5, .slice KA5 nk5 kc5] (by first | rfl | simp [Act.eval]) (by rfl) (World.news_of_block (cs := #[.bool lf5, .slice PA5 np5 pc5, .slice TA5 nt5 tc5, .slice KA5 nk5 kc5]) (t := 26) (fr := (0, 0)) (heap_alloc_new w5 _)) (by simp [Value.oneCell']) (by omega) (by unfold maxLen; omega) (by omega) (by simp; omega) (w5.heap.size + 1) (by simp) ?_; intro g6 cap6 w6 hown6 hgrow6 hat6 hlt6; have hO6 := hd (kAr hgrow6 hO5.out hgkO); obtain ⟨s0, s1, s2, s3, s4, s5, s6, s7⟩ := zJ hO6.out; have hOl6 := lt_of_block hO6.out)))
              all_goals
               have HST := hd (zOh HL.out HBK.out HB5.out HT5.out hgrow6 hown6 hat6)
               rw [HTK.out] at HST
               clear hgrow6 hown6 hat6 s0 s1 s2 s3 s4 s5 s6 s7 r0 r1 r2 r3 r4 r5 r6 r7 hrow5 hO5 hO6 HBL5 HB5 HT5 p0 p1 p2 p3 g0 g1 g2 g3 c0 c1 c2 c3
               go_wp2_with fail
               go_meet
               exact ⟨rfl, _, _, HST⟩
             case rest =>
              obtain ⟨rfl, vK6, us6, HST⟩ := hcut
              clear p0 p1 p2 p3 g0 g1 g2 g3 c0 c1 c2 c3
              go_wp2
              go_roundw
              case rel => exact ⟨k + 1, vK6, us6, by omega, by go_num, HST⟩
              case measure => simp [intOf]; omega
  ·obtain rfl : k = i := by omega
   clear hlt
   have HLI := HL
   rw [List.take_of_length_le (by rw [List.length_take]; omega)] at HLI
   clear HL
   obtain ⟨A, cap, rfl, hkc1, hcm1, _⟩ := zC9 HLI.out.row
   have HRO := hd HLI.out.row
   have HOV := hd (HO.out.cells.below hbr)
   have HFL := hd HO.out.flat
   have hbase1 := HLI.out.bs
   have hbl1 := HLI.out.below.size
   obtain ⟨p0, p1, p2, p3, g0, g1, g2, g3⟩ := zJ HLI.out.out
   have HOUT := hd HLI.out.out
   have HAP := hd HLI.out.apart
   have hOl1 := lt_of_block HLI.out.out
   have HBR1 := hd hbr
   clear hbr
   go_wp2_with (at_builtin; refine zK7 zWg _ rfl (.tmp 54) (.tmp 55) rfl (w.heap.size + 2) (.slice A k cap) k (us1.flatMap fun u => u.cells.toList) rfl HRO.out OA no oc w.heap.size (us.flatMap fun u => u.cells.toList) rfl (by rw [HFL.out.1, HNO.out]) HOV.out HFL.out.2 (by unfold maxLen; omega) (by omega) (by omega) ?_; intro A6 c6 w6 hown6 hgrow6 hat6; have hO6 := hd ((hgrow6.block w4.heap.size hOl1 (fun e => HAP.out e.symm)).trans HOUT.out); obtain ⟨s0, s1, s2, s3, s4, s5, s6, s7⟩ := zJ hO6.out; have hOl6 := lt_of_block hO6.out; have HOWN6 := hd hown6; have HGROW6 := hd hgrow6; have HAT6 := hd hat6; clear hown6 hgrow6 hat6)
   have HB6 := hd (zOg HLI.out (by rw [HNO.out]) HO.out.len (Below.refl _ _) HGROW6.out HOWN6.out HAT6.out (fun j m hj => by
    obtain ⟨u, h1, h2⟩ := HO.out.trees j m hj
    refine ⟨u, h1, h2.keep (fun b hb => ⟨by rw [HPD.out]; exact .inl hb, ?_, ?_, ?_⟩) (fun p hp => ⟨HBR1.out.cell (HQ.out _ hp), HBR1.out.frozen (HQ.out _ hp)⟩)⟩
    ·have := HQ.out b hb; have := HBR1.out.size; omega
    ·have := HQ.out b hb; omega
    ·intro e
     have := (HLI.out.row.lt b e.symm).1
     have := HQ.out b hb
     omega))
   clear HOWN6 HGROW6 HAT6 s0 s1 s2 s3 s4 s5 s6 s7 p0 p1 p2 p3 g0 g1 g2 g3 HOUT HRO hO6 HOV hOl6
   obtain ⟨wo, hwo⟩ : ∃ wo : World, wo = wr := ⟨_, rfl⟩
   subst hwo
   obtain ⟨uo, huo⟩ : ∃ uo, uo = us1 ++ us := ⟨_, rfl⟩
   rw [<- huo] at HB6
   clear huo
   go_loopw [60] (fun idx wr => ∃ (k2 : Nat) (vK : Value) (us1 : List Value), k2 <= nb /\ idx = .int .i64 k2 /\ Hid (zNk P w4 (w.heap.size + 2) d lf ps tx w4.heap.size PA4 pc4 TA4 tc4 vK (k + no + k2) us1 ((ks.take k ++ os) ++ (ks.drop (k + many)).take k2) wr)) (fun idx _ => nb - (intOf idx).toNat)
   case atStart => exact ⟨0, _, uo, Nat.zero_le _, rfl, (by rw [List.take_zero, List.append_nil]; exact HB6)⟩
   case round =>
    obtain ⟨k2, vK, us1, hk2, rfl, HL⟩ := hrel
    clear HB6
    have hbr := HW4.out.trans (HL.out.below.mono (by omega))
    by_cases hlt : k2 < nb
    ·          obtain ⟨m, b, o, lf1, PA1, np1, pc1, TA1, nt1, tc1, KA1, nk1, kc1, hm, rfl, hbg, hnm, c0, c1, c2, c3⟩ := (HDS.out.below hbr).at_ (show k2 < (ks.drop (k + many)).length by rw [HDL.out]; exact hlt)
               have hsz := hbr.size
               have hOr := HL.out.out
               have hOlt := lt_of_block hOr
               have HM := hd hm
               obtain ⟨A, cap, rfl, hkc, hcm, _⟩ := zC9 HL.out.row
               obtain ⟨p0, p1, p2, p3, g0, g1, g2, g3⟩ := zJ hOr
               obtain ⟨wk, hwk⟩ : ∃ wk, wk = (wr.alloc (.cells #[.bool lf1, .slice PA1 np1 pc1, .slice TA1 nt1 tc1, .slice KA1 nk1 kc1] 26)).drew := ⟨_, rfl⟩
               have hbk : Below wr.heap.size wr wk := hwk ▸ ((Below.refl _ _).alloc (Nat.le_refl _) _).drew
               have HC := hd (zEy d wk _ m (((hnm.more hsz).below hbk).more hbk.size))
               have HBK := hd hbk
               have hgkO := HL.out.apart
               have hbs := HL.out.bs
               have hbl := HL.out.below.size
               have HTK := hd (show (ks.take k ++ os) ++ (ks.drop (k + many)).take k2 ++ [m] = (ks.take k ++ os) ++ (ks.drop (k + many)).take (k2 + 1) from (by rw [List.append_assoc, <- zPd HM.out]))
               obtain ⟨i0, hi, hz0, hz1, hz2⟩ := info_parts zJj
               subst hwk
               clear hnm hbk hm hOr hbr
               go_upto_block 3 with fail
               go_cut [60] (fun s wx => s = .int .i64 k2 /\ ∃ (vK6 : Value) (us6 : List Value), Hid (zNk P w4 (w.heap.size + 2) d lf ps tx w4.heap.size PA4 pc4 TA4 tc4 vK6 (k + no + k2 + 1) us6 ((ks.take k ++ os) ++ (ks.drop (k + many)).take (k2 + 1)) wx))
               case first =>
                go_wp2_with fail
                go_region_law (first
                  | ((go_simp; go_at_call 75; refine HC.out.mono ?_; intro e w5 h5; obtain ⟨v5, rfl, ht5, hb5⟩ := h5; obtain ⟨lf5, PA5, np5, pc5, TA5, nt5, tc5, KA5, nk5, kc5, rfl⟩ := (ht5.at_ (B := w5.heap.size) (fun b hb => hb.2)).val; obtain ⟨hs5, hbl5⟩ := zIk hb5; have hO5 := hd ((hbl5 w4.heap.size hOlt).trans HL.out.out); obtain ⟨r0, r1, r2, r3, r4, r5, r6, r7⟩ := zJ hO5.out; have hOl5 : w4.heap.size < w5.heap.size := (by omega); have hrow5 := hd (zG5 HL.out.row hbl5); have HBL5 := hd hbl5; clear hbl5; have HB5 := hd hb5; have HT5 := hd ht5; clear ht5 hb5))
                  | ((refine step_append_lies _ (by rfl) (.tmp 65) (.tmp 68) _ (by rfl) (w.heap.size + 2) 26 i0 _ 4 80 Tryz.underlying24 hi hz0 hz1 hz2 rfl (by omega) (.slice A (k + no + k2) cap) (k + no + k2) (us1.flatMap fun u => u.cells.toList) (by first | rfl | simp [Act.eval]) (hrow5.out.alloc _) ⟨w5.heap.size, 0, none⟩ 1 1 [.bool lf5, .slice PA5 np5 pc5, .slice TA5 nt5 tc5, .slice KA5 nk5 kc5] (by first | rfl | simp [Act.eval]) (by rfl) (World.news_of_block (cs := #[.bool lf5, .slice PA5 np5 pc5, .slice TA5 nt5 tc5, .slice KA5 nk5 kc5]) (t := 26) (fr := (0, 0)) (heap_alloc_new w5 _)) (by simp [Value.oneCell']) (by omega) (by unfold maxLen; omega) (by omega) (by simp; omega) (w5.heap.size + 1) (by simp) ?_; intro g6 cap6 w6 hown6 hgrow6 hat6 hlt6; have hO6 := hd (kAr hgrow6 hO5.out hgkO); obtain ⟨s0, s1, s2, s3, s4, s5, s6, s7⟩ := zJ hO6.out; have hOl6 := lt_of_block hO6.out)))
                all_goals
                 have HST := hd (zOh HL.out HBK.out HB5.out HT5.out hgrow6 hown6 hat6)
                 rw [HTK.out] at HST
                 clear hgrow6 hown6 hat6 s0 s1 s2 s3 s4 s5 s6 s7 r0 r1 r2 r3 r4 r5 r6 r7 hrow5 hO5 hO6 HBL5 HB5 HT5 p0 p1 p2 p3 g0 g1 g2 g3 c0 c1 c2 c3
                 go_wp2_with fail
                 go_meet
                 exact ⟨rfl, _, _, HST⟩
               case rest =>
                obtain ⟨rfl, vK6, us6, HST⟩ := hcut
                clear p0 p1 p2 p3 g0 g1 g2 g3 c0 c1 c2 c3
                go_wp2
                go_roundw
                case rel => exact ⟨k2 + 1, vK6, us6, by omega, by go_num, HST⟩
                case measure => simp [intOf]; omega
    ·obtain rfl : k2 = nb := by omega
     have HL8 := HL
     rw [List.take_of_length_le (l := ks.drop (k + many)) (by rw [HDL.out]; exact Nat.le_refl _)] at HL8
     clear HL
     have hO8 := HL8.out.out
     have hO8l := lt_of_block hO8
     obtain ⟨A8, cap8, rfl, _⟩ := zC9 HL8.out.row
     obtain ⟨p0, p1, p2, p3, _, _, _, _⟩ := zJ hO8
     clear hO8
     have hres : wr.heap[w.heap.size + 1]? = some (.cells #[.bool false, .slice none 0 0, .slice none 0 0, .slice none 0 0] 26) := (HL8.out.below.block _ (by omega)).trans HR4.out
     obtain ⟨q0, q1, q2, q3, q4, q5, q6, q7⟩ := zJ hres
     have HRS := hd hres
     have HBR := hd hbr
     clear hres hbr
     go_wp2
     have h7 := kD (a := .bool lf) (b := .slice PA4 ps.length pc4) (c := .slice TA4 tx.length tc4) (d := .slice A8 (k + no + k2) cap8) HRS.out
     obtain ⟨t0, t1, t2, t3, _, _, _, _⟩ := zJ h7
     have hfit : zIo ps /\ ps.length <= 4398046511104 /\ tx.length <= 35184372088832 /\ (ks.take k ++ os ++ ks.drop (k + many)).length <= 1759218604441 /\ ps.length <= pc4 /\ tx.length <= tc4 :=
      ⟨HF.out.1, HF.out.2.1, HF.out.2.2.1, by have := HNO.out; simp only [List.length_append, List.length_take, List.length_drop]; omega, HFC.out.1, HFC.out.2⟩
     have hend := fun w7 hs h7 => (kAq (w7 := w7) HL8.out hfit hs h7).tree
     refine bodyPost_ret (v := .agg #[.bool lf, .slice PA4 ps.length pc4, .slice TA4 tx.length tc4, .slice A8 (k + no + k2) cap8]) (by simp [results, Tryz.results132, go_sem, t0, t1, t2, t3]) rfl ⟨_, rfl, (hend _ (by simp) (fun b hb _ => ?_)).keep (fun b hb => ?_) (fun _ _ => ⟨rfl, rfl⟩), ?_⟩
     ·rw [HPD.out] at hb
      have : b ≠ w.heap.size + 1 := by
       rcases hb with h | h
       ·have := HQ.out b h; omega
       ·omega
      iterate 4 rw [Below.heap_setCell _ _ _ _ (by show b ≠ w.heap.size + 1; exact this)]
     ·obtain ⟨h1, h2⟩ := hb
      rw [HPD.out] at h1
      rcases h1 with h | h
      ·exact ⟨.inl h, h2⟩
      ·exact ⟨.inr (by omega), h2⟩
     ·exact (((HBR.out.setCell (by show _ <= w.heap.size + 1; omega) _).setCell (by show _ <= w.heap.size + 1; omega) _).setCell (by show _ <= w.heap.size + 1; omega) _).setCell (by show _ <= w.heap.size + 1; omega) _
end Go.Proofs.YtmkciabefepelaaGreat
