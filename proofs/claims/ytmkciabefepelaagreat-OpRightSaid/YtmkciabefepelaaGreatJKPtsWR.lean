/- Points compared: plain functions and facts; -/
import Derived.Test.YtmkciabefepelaaGreatJIPath
import Derived.Laws.Strings
import Derived.Test.YtmkciabefepelaaGreatJIAlike
import Derived.Test.YtmkciabefepelaaGreatProg
import Derived.WalkKit
import Derived.WalkLawsBesides
import Derived.WalkSpells
import Derived.LoopTactic
import Derived.Outline
import Derived.Deep.Draws
import Derived.Deep.QuietTactic
import Derived.BigQuiet
import Derived.Below
import Derived.Laws.OwnMore
import Derived.Laws.MakeOwn
import Derived.Maps.AppendAt
import Derived.Deep.AppendLies
import Derived.RegionTactic
import Derived.OwnWalk
import Derived.WideShapes
import Derived.IntWalk
import Derived.Deep.RegionHeld3
import Derived.Test.YtmkciabefepelaaGreatJPSame
import Derived.Test.YtmkciabefepelaaGreatJTTree
import Derived.Test.YtmkciabefepelaaGreatJKTold
import Derived.Test.YtmkciabefepelaaGreatJTCut
import Derived.Laws.AppendOwnNone
import Derived.Test.YtmkciabefepelaaGreatJTPut
import Derived.Test.YtmkciabefepelaaGreatTChange
import Derived.Test.YtmkciabefepelaaGreatJTGet
import Derived.Test.YtmkciabefepelaaGreatNCopy
import Derived.Test.YtmkciabefepelaaGreatJNRSame
import Derived.Test.YtmkciabefepelaaGreatJNEach
import Derived.Laws.EntriesVeiled
import Derived.Shelf.Abstract
import Derived.Laws.IdiomStrings
import Derived.Deep.DeepCutAuto
import Derived.Deep.CutBlock
import Derived.Deep.RegionLaw
import Derived.StillTailTactics
import Derived.ArgAppend
import Derived.Lib.SliceRun
import Derived.Test.YtmkciabefepelaaGreatJQPlain
import Derived.Test.YtmkciabefepelaaGreatJXMove5
import Derived.Test.YtmkciabefepelaaGreatXMove
import Derived.Test.YtmkciabefepelaaGreatJXCalls
import Derived.Lib.AppendZeros
import Derived.Deep.Cut
import Derived.BigRegion
import Derived.Deep.MidRow
import Derived.Laws.Tables
import Derived.Laws.ResultCell
import Derived.Maps.OwnOps
import Derived.Test.YtmkciabefepelaaGreatJBFew
import Derived.Test.YtmkciabefepelaaGreatBInv
import Derived.Test.YtmkciabefepelaaGreatBFresh
import Derived.Test.YtmkciabefepelaaGreatJCAny
import Derived.OrdersHeld
import Derived.Test.YtmkciabefepelaaGreatJBWith
import Derived.Test.YtmkciabefepelaaGreatBEmpty
import Derived.Test.YtmkciabefepelaaGreatJOForm
set_option maxRecDepth 4000
set_option maxHeartbeats 8000000
namespace Go.Proofs.YtmkciabefepelaaGreat
theorem zIs (x : Int) (a b : List Int) : zBu (x :: a) (x :: b) = zBu a b := by
 unfold zBu
 rw [kO, if_pos rfl]
 simp
end Go.Proofs.YtmkciabefepelaaGreat
namespace Go.Proofs.YtmkciabefepelaaGreat
open Go.RowKit
theorem zVv (A B : Option Addr) (l m : List Int) (c d : Nat) (w : World) (hl : l.length <= 9223372036854775807) (_hm : m.length <= 9223372036854775807) (hp : IL w w.heap.size A l) (hq : IL w w.heap.size B m) :
  Calls Tryz.prog 107 #[.slice A l.length c, .slice B m.length d] w (zHa (.bool (zEd l m)) w) := by
 have HP := hd hp
 have HQ := hd hq
 clear hp hq
 by_cases hlm : l.length = m.length
 ·have hx : ((l.length : Int) != (m.length : Int)) = false := by simp; omega
  have HL := hd hlm
  clear hlm
  go_enter Tryz.func107, Tryz.ntmps107
  go_wp2
  go_loopw [13] (fun i wr => ∃ n : Nat, n <= l.length /\ i = .int .i64 n /\ (∃ k, wr = w.drewN k) /\ Hid (∀ j, j < n -> iAt l j = iAt m j)) (fun i _ => l.length - (intOf i).toNat)
  case atStart => exact ⟨0, Nat.zero_le _, rfl, ⟨0, rfl⟩, fun j hj => absurd hj (Nat.not_lt_zero _)⟩
  case round =>
   obtain ⟨n, hn1, rfl, ⟨kd, rfl⟩, HA⟩ := hrel
   by_cases h1 : n < l.length
   ·have h2 : n < m.length := by have := HL.out; omega
    obtain ⟨b1, o1, rfl, hl1, c1⟩ := HP.out.at_ h1
    obtain ⟨b2, o2, rfl, hl2, c2⟩ := HQ.out.at_ h2
    by_cases hs : iAt l n = iAt m n
    ·have HB := zBm (p := fun j => iAt l j = iAt m j) HA hs
     have hy : (iAt l n != iAt m n) = false := by simp [hs]
     clear HA hs
     go_wp2_with fail
     go_quiet (fail)
     go_wp2
     go_roundw
     case rel => exact ⟨n + 1, by omega, by go_num, (by first | exact ⟨_, rfl⟩ | exact ⟨_, World.drewN_drewN _ _ _⟩ | exact ⟨_, (World.drewN_drewN _ _ _).trans (World.drewN_drewN _ _ _)⟩), HB⟩
     case measure => simp [intOf]; omega
    ·have HF := hd (zLf l m (.inr (by have := zEc l m n (by omega) (by omega) HA.out (fun _ _ => hs); omega)))
     have hy : (iAt l n != iAt m n) = true := by simp [hs]
     clear HA hs
     go_wp2_with fail
     go_quiet (fail)
     go_wp2
     go_ret
     exact kW (zA3 (by rw [HF.out])) (by first | exact ⟨_, rfl⟩ | exact ⟨_, World.drewN_drewN _ _ _⟩ | exact ⟨_, (World.drewN_drewN _ _ _).trans (World.drewN_drewN _ _ _)⟩)
   ·have HF := hd (zQh l m HL.out (by have := zEc l m n (by omega) (by have := HL.out; omega) HA.out (fun _ _ => by omega); omega))
    clear HA
    go_wp2
    go_ret
    exact kW (zA3 (by rw [HF.out])) (by first | exact ⟨_, rfl⟩ | exact ⟨_, World.drewN_drewN _ _ _⟩ | exact ⟨_, (World.drewN_drewN _ _ _).trans (World.drewN_drewN _ _ _)⟩)
 ·have hx : ((l.length : Int) != (m.length : Int)) = true := by simp; omega
  have HF := hd (zLf l m (.inl hlm))
  clear hlm
  go_enter Tryz.func107, Tryz.ntmps107
  go_wp2
  go_ret
  exact kW (zA3 (by rw [HF.out])) ⟨0, rfl⟩
theorem zVw (A B : Option Addr) (p q : List Int × Int) (n m c d : Nat) (w : World) (hn : p.1.length = n) (hm : q.1.length = m) (hl : n <= 9223372036854775807) (hl2 : m <= 9223372036854775807) (hp : IL w w.heap.size A p.1) (hq : IL w w.heap.size B q.1) :
  Calls Tryz.prog 52 #[.agg #[.slice A n c, .int .i64 p.2], .agg #[.slice B m d, .int .i64 q.2]] w (jA (.bool (samP p q)) w) := by
 subst hn hm
 obtain ⟨x, hx⟩ : ∃ x, x = zEd p.1 q.1 := ⟨_, rfl⟩
 have HC := hd (fun (W : World) (h : Below w.heap.size w W) => hx ▸ zVv A B p.1 q.1 c d W hl hl2 (hp.later h) (hq.later h))
 obtain ⟨W0, hW, hb0, hz, hk⟩ := zNu (w := w) (.slice A p.1.length c) (.int .i64 p.2) (.slice B q.1.length d) (.int .i64 q.2) 29 29
 have HW := hd hW
 have HB0 := hd hb0
 obtain ⟨_, x0, x1, y0, y1⟩ := hk W0 (Below.refl _ _)
 by_cases h0 : p.2 = q.2
 ·have HF := hd (show samP p q = x by
   rw [hx]; unfold samP zEd
   rw [decide_eq_decide]
   exact ⟨fun h => by rw [h], fun h => Prod.ext h h0⟩)
  have g0 : (p.2 == q.2) = true := by simp [h0]
  clear hp hq hx hW hb0 hz hk h0
  go_enter Tryz.func52, Tryz.ntmps52
  go_wp2_with (go_at_call 107; rw [HW.out]; refine (HC.out _ HB0.out).mono ?_; rintro e w1 ⟨rfl, k, e1⟩; have HB1 := hd (show Below W0.heap.size W0 w1 from e1 ▸ zZ (Below.refl W0.heap.size W0) k); clear e1)
  go_ret
  exact ⟨kC HF.out.symm, HB0.out.trans (HB1.out.mono HB0.out.size)⟩
 ·have HF := hd (show samP p q = false by unfold samP; rw [decide_eq_false_iff_not]; intro h; exact h0 (by rw [h]))
  have g0 : (p.2 == q.2) = false := by simp [h0]
  clear hp hq hx hW hz hk h0
  go_enter Tryz.func52, Tryz.ntmps52
  go_wp2
  go_ret
  exact ⟨kC HF.out.symm, by rw [HW.out]; exact HB0.out⟩
theorem jQ (a b : List NT) : textK (a ++ b) = textK a ++ textK b := by
 induction a with
 | nil => simp [textK]
 | cons x r ih => simp only [List.cons_append, textK, ih, List.append_assoc]
section
variable {σ : Type} (step : σ -> NT -> Bool × σ)
variable {step}
end
theorem zF3 {n k : NT} {i j : Int} (h : zOf n i = true) (hj : j ≠ i) : zBh (setK n i.toNat k) j = zBh n j := by
 rw [zEx] at h
 unfold zBh setK jS
 split
 ·show (spl n.ks i.toNat 1 [k])[j.toNat]? = _
  rw [zI0 (by omega), List.getElem?_set_ne (by omega)]
 ·rfl
theorem zHg : ∀ (n : NT) (p q : List Int) (m x : NT), kB n p = some x -> ¬ p <+: q -> ¬ q <+: p -> kB (putT n p m) q = kB n q
 | n, [], q, m, x => fun _ h _ => absurd (List.nil_prefix) h
 | n, i :: r, [], m, x => fun _ _ h => absurd (List.nil_prefix) h
 | n, i :: r, j :: s, m, x => by
  intro h0 h1 h2
  rw [zR] at h0
  cases h : zBh n i with
  | none => rw [h] at h0; cases h0
  | some k =>
   rw [h] at h0
   simp only [putT, h]
   rw [zR, zR]
   rcases Classical.em (j = i) with e | e
   ·subst e
    rw [zIg (zCy h), h]
    refine zHg k r s m x h0 (fun h3 => h1 ?_) (fun h3 => h2 ?_)
    ·exact (List.cons_prefix_cons).2 ⟨rfl, h3⟩
    ·exact (List.cons_prefix_cons).2 ⟨rfl, h3⟩
   ·rw [zF3 (zCy h) e]
theorem zL0 {ks : List NT} {i : Nat} {m : NT} (h : i <= ks.length) : (spl ks i 0 [m])[i]? = some m := by
 unfold spl
 have e : (ks.take i).length = i := by rw [List.length_take]; omega
 rw [Nat.add_zero, List.append_assoc, List.getElem?_append_right (by omega), e, Nat.sub_self]
 rfl
theorem zOu {n a m : NT} {p : List Int} (h : zGo n p m = (a, 0)) : zBw a p = (n, 0) /\ zE3 a p = m := by
 unfold zGo at h
 split at h
 ·cases h
 ·rename_i hp
  unfold zBw zE3
  rw [if_neg hp, if_neg hp]
  cases hg : kB n (upP p) with
  | none => rw [zFq (zBa _ _) hg] at h; cases h
  | some x =>
   rcases Classical.em ((zGn (lastL p) m x).2 = 0) with h0 | h0
   ·rw [zCe (zBa _ _) hg h0] at h
    injection h with h1 _
    have hx : (zGn (lastL p) m x).1 = jS x (lastL p).toNat 0 [m] /\ 0 <= lastL p /\ lastL p <= x.ks.length := by
     unfold zGn at h0 ⊢
     split at h0
     ·cases h0
     ·split at h0
      ·cases h0
      ·rename_i h2 h3; rw [if_neg h2, if_neg h3]; exact ⟨rfl, by omega, by omega⟩
    obtain ⟨hx1, hx2, hx3⟩ := hx
    rw [hx1] at h1
    have hg2 : kB a (upP p) = some (jS x (lastL p).toNat 0 [m]) := by rw [<- h1]; exact jX n (upP p) _ x hg
    have hk : zBh (jS x (lastL p).toNat 0 [m]) (lastL p) = some m := by
     unfold zBh; rw [if_pos hx2]; exact zL0 (by omega)
    have hc : zJy (lastL p) (jS x (lastL p).toNat 0 [m]) = (x, 0) := by
     unfold zJy; rw [if_pos (zCy hk)]
     congr 1
     show NT.mk _ _ _ (spl (spl x.ks (lastL p).toNat 0 [m]) (lastL p).toNat 1 []) = x
     rw [zTr (by omega)]; exact NT.eta x
    constructor
    ·rw [zCe (zG2 _) hg2 (by rw [hc]), hc, <- h1, zEo n _ _ _ x hg, zG1 n _ x hg]
    ·have : kB a p = some m := by rw [zHv hp, hg2]; exact hk
     rw [kP this]
   ·rw [zHu (zBa _ _) hg h0] at h
    injection h with _ h2
    exact absurd h2 h0
theorem zHh {ks : List NT} {i : Nat} {m : NT} (_h : i <= ks.length) : sizeK (spl ks i 0 [m]) = sizeK ks + sizeT m := by
 unfold spl
 rw [kZ, kZ, Nat.add_zero]
 have : sizeK ks = sizeK (ks.take i) + sizeK (ks.drop i) := by rw [<- kZ, List.take_append_drop]
 simp only [sizeK]
 omega
theorem zFl {n a m : NT} {p : List Int} (h : zGo n p m = (a, 0)) : sizeT a = sizeT n + sizeT m /\ ∃ x, p.length ≠ 0 /\ kB n (upP p) = some x /\ kB a (upP p) = some (jS x (lastL p).toNat 0 [m]) /\ (jS x (lastL p).toNat 0 [m]).ks.length = x.ks.length + 1 := by
 unfold zGo at h
 split at h
 ·cases h
 ·rename_i hp
  cases hg : kB n (upP p) with
  | none => rw [zFq (zBa _ _) hg] at h; cases h
  | some x =>
   rcases Classical.em ((zGn (lastL p) m x).2 = 0) with h0 | h0
   ·rw [zCe (zBa _ _) hg h0] at h
    injection h with h1 _
    have hx : (zGn (lastL p) m x).1 = jS x (lastL p).toNat 0 [m] /\ 0 <= lastL p /\ lastL p <= x.ks.length := by
     unfold zGn at h0 ⊢
     split at h0
     ·cases h0
     ·split at h0
      ·cases h0
      ·rename_i h2 h3; rw [if_neg h2, if_neg h3]; exact ⟨rfl, by omega, by omega⟩
    obtain ⟨hx1, hx2, hx3⟩ := hx
    rw [hx1] at h1
    have h5 := zBo n (upP p) (jS x (lastL p).toNat 0 [m]) x hg
    rw [h1] at h5
    have h6 : sizeT (jS x (lastL p).toNat 0 [m]) = sizeT x + sizeT m := by
     rw [jC, jC x]
     show 1 + x.tx.length + sizeK (spl x.ks _ 0 [m]) = _
     rw [zHh (by omega)]; omega
    refine ⟨by omega, x, hp, rfl, by rw [<- h1]; exact jX n _ _ x hg, ?_⟩
    have := zM4 (ks := x.ks) (i := (lastL p).toNat) (many := 0) (o := [m]) (by omega)
    simp at this
    exact this
   ·rw [zHu (zBa _ _) hg h0] at h
    injection h with _ h2
    exact absurd h2 h0
theorem zUk {w W : World} {u v : Value} {p q : List Int × Int} (hb : Below w.heap.size w W) (hp : zI4 w u p) (hq : zI4 w v q) : Calls Tryz.prog 52 #[u, v] W (jA (.bool (samP p q)) W) := by
 obtain ⟨A, n, c, rfl, h1, h2, _, h3⟩ := hp.later hb
 obtain ⟨B, m, d, rfl, g1, g2, _, g3⟩ := hq.later hb
 exact zVw A B p q n m c d W h1 g1 (by omega) (by omega) h3 g3
theorem zQw (w : World) (s t : Sl) (A B C D : Option Addr) (na nb nc nd ca cb cc cd : Nat) (hA : zI4 w (.agg #[.slice A na ca, .int .i64 s.a.2]) s.a) (hB : zI4 w (.agg #[.slice B nb cb, .int .i64 s.f.2]) s.f) (hC : zI4 w (.agg #[.slice C nc cc, .int .i64 t.a.2]) t.a) (hD : zI4 w (.agg #[.slice D nd cd, .int .i64 t.f.2]) t.f) :
  Calls Tryz.prog 16 #[.agg #[.bool s.is, .slice A na ca, .int .i64 s.a.2, .slice B nb cb, .int .i64 s.f.2], .agg #[.bool t.is, .slice C nc cc, .int .i64 t.a.2, .slice D nd cd, .int .i64 t.f.2]] w (jA (.bool (zF7 s t)) w) := by
 obtain ⟨si, sa, sf⟩ := s
 obtain ⟨ti, ta, tf⟩ := t
 simp only at hA hB hC hD ⊢
 obtain ⟨W0, hW⟩ : ∃ W0, (w.alloc (.cells #[.bool si, .slice A na ca, .int .i64 sa.2, .slice B nb cb, .int .i64 sf.2] 33)).alloc (.cells #[.bool ti, .slice C nc cc, .int .i64 ta.2, .slice D nd cd, .int .i64 tf.2] 33) = W0 := ⟨_, rfl⟩
 have hb0 : Below w.heap.size w W0 := hW ▸ kM (Below.refl _ _) (Nat.le_refl _)
 have e0 := zK2 w (Obj.cells #[Value.bool si, .slice A na ca, .int .i64 sa.2, .slice B nb cb, .int .i64 sf.2] 33) (Obj.cells #[Value.bool ti, .slice C nc cc, .int .i64 ta.2, .slice D nd cd, .int .i64 tf.2] 33)
 rw [hW] at e0
 have HK := hd (show ∀ W, Below W0.heap.size W0 W -> (W.cell? ⟨w.heap.size, 0, none⟩ = some (.bool si) /\ W.cell? ⟨w.heap.size, 1, none⟩ = some (.slice A na ca) /\ W.cell? ⟨w.heap.size, 2, none⟩ = some (.int .i64 sa.2) /\ W.cell? ⟨w.heap.size, 3, none⟩ = some (.slice B nb cb) /\ W.cell? ⟨w.heap.size, 4, none⟩ = some (.int .i64 sf.2) /\
   W.cell? ⟨w.heap.size + 1, 0, none⟩ = some (.bool ti) /\ W.cell? ⟨w.heap.size + 1, 1, none⟩ = some (.slice C nc cc) /\ W.cell? ⟨w.heap.size + 1, 2, none⟩ = some (.int .i64 ta.2) /\ W.cell? ⟨w.heap.size + 1, 3, none⟩ = some (.slice D nd cd) /\ W.cell? ⟨w.heap.size + 1, 4, none⟩ = some (.int .i64 tf.2)) from fun W h => by
  obtain ⟨h0, h1, h2, h3, h4⟩ := kGy (kI e0.1 h)
  obtain ⟨g0, g1, g2, g3, g4⟩ := kGy (kI e0.2 h)
  exact ⟨h0, h1, h2, h3, h4, g0, g1, g2, g3, g4⟩)
 obtain ⟨x0, x1, x2, x3, x4, y0, y1, y2, y3, y4⟩ := HK.out _ (Below.refl _ _)
 have HW := hd hW
 have HB0 := hd hb0
 obtain ⟨E1, hE1⟩ : ∃ E1, samP sa ta = E1 := ⟨_, rfl⟩
 obtain ⟨E2, hE2⟩ : ∃ E2, samP sf tf = E2 := ⟨_, rfl⟩
 have HC1 := hd (fun (W : World) (h : Below W0.heap.size W0 W) => hE1 ▸ zUk (w := W0) (W := W) h (hA.later hb0) (hC.later hb0))
 have HC2 := hd (fun (W : World) (h : Below W0.heap.size W0 W) => hE2 ▸ zUk (w := W0) (W := W) h (hB.later hb0) (hD.later hb0))
 have hF : zF7 ⟨si, sa, sf⟩ ⟨ti, ta, tf⟩ = (si == ti && E1 && E2) := by unfold zF7; rw [hE1, hE2]
 rw [hF]
 clear hF hE1 hE2 hA hB hC hD hW hb0 e0
 by_cases hi : si = ti
 ·subst hi
  have g1 : (si == si) = true := by simp
  cases E1 with
  | true =>
   go_enter Tryz.func16, Tryz.ntmps16
   go_wp2_with (first
    | (go_at_call 52; have _g := HB1; refine Calls.mono (HC2.out _ HB1.out) ?_; rintro e w2 ⟨rfl, b2⟩; have HB2 := hd (HB1.out.trans (b2.mono HB1.out.size)); clear b2)
    | (go_at_call 52; rw [HW.out]; refine Calls.mono (HC1.out _ (Below.refl _ _)) ?_; rintro e w1 ⟨rfl, b1⟩; have HB1 := hd b1; clear b1 x0 x1 x2 x3 x4 y0 y1 y2 y3 y4; obtain ⟨x0, x1, x2, x3, x4, y0, y1, y2, y3, y4⟩ := HK.out _ HB1.out))
   go_ret
   exact ⟨kC (by simp), HB0.out.trans (HB2.out.mono HB0.out.size)⟩
  | false =>
   go_enter Tryz.func16, Tryz.ntmps16
   go_wp2_with (first
    | (go_at_call 52; have _g := HB1; refine Calls.mono (HC2.out _ HB1.out) ?_; rintro e w2 ⟨rfl, b2⟩; have HB2 := hd (HB1.out.trans (b2.mono HB1.out.size)); clear b2)
    | (go_at_call 52; rw [HW.out]; refine Calls.mono (HC1.out _ (Below.refl _ _)) ?_; rintro e w1 ⟨rfl, b1⟩; have HB1 := hd b1; clear b1 x0 x1 x2 x3 x4 y0 y1 y2 y3 y4; obtain ⟨x0, x1, x2, x3, x4, y0, y1, y2, y3, y4⟩ := HK.out _ HB1.out))
   go_ret
   exact ⟨kC (by simp), HB0.out.trans (HB1.out.mono HB0.out.size)⟩
 ·have g1 : (si == ti) = false := by simpa using hi
  clear hi
  go_enter Tryz.func16, Tryz.ntmps16
  go_wp2_with (first
   | (go_at_call 52; have _g := HB1; refine Calls.mono (HC2.out _ HB1.out) ?_; rintro e w2 ⟨rfl, b2⟩; have HB2 := hd (HB1.out.trans (b2.mono HB1.out.size)); clear b2)
   | (go_at_call 52; rw [HW.out]; refine Calls.mono (HC1.out _ (Below.refl _ _)) ?_; rintro e w1 ⟨rfl, b1⟩; have HB1 := hd b1; clear b1 x0 x1 x2 x3 x4 y0 y1 y2 y3 y4; obtain ⟨x0, x1, x2, x3, x4, y0, y1, y2, y3, y4⟩ := HK.out _ HB1.out))
  rw [HW.out]
  go_ret
  exact ⟨kC (by simp [g1]), HB0.out⟩
end Go.Proofs.YtmkciabefepelaaGreat
namespace Go.Proofs.YtmkciabefepelaaGreat
theorem zL1 {l m : List Int} (h : l.length = m.length) (h2 : ∀ k, k < l.length -> iAt l k = iAt m k) : l = m := by
 apply List.ext_getElem h
 intro i h3 h4
 have := h2 i h3
 rwa [jY l i h3, jY m i h4] at this
theorem zIt {q p : List Int} {k : Nat} (hk : q.length = k + 1) : zX q p = 1 ↔ k < p.length /\ (∀ j, j < k -> iAt q j = iAt p j) /\ iAt q k < iAt p k := by
 rw [zIv, zEe]
 constructor
 ·rintro ⟨h1, h2, h3⟩
  have e : kO q p = k := by omega
  rw [e] at h2 h3
  exact ⟨h2, fun j hj => zGp q p j (by omega), h3⟩
 ·rintro ⟨h1, h2, h3⟩
  have e : kO q p = k := zEc q p k (by omega) (by omega) h2 (fun _ _ => by omega)
  rw [e]
  exact ⟨by omega, h1, h3⟩
theorem zE6 {q p : List Int} {k : Nat} (hk : q.length = k + 1) : zX q p ≠ 0 ↔ k < p.length /\ (∀ j, j < k -> iAt q j = iAt p j) /\ iAt q k <= iAt p k := by
 constructor
 ·intro h
  rcases zAt q p with ⟨h0, _⟩ | ⟨h0, _⟩ | ⟨h0, _⟩ | ⟨h0, _⟩
  ·have := (zIt hk).1 h0; exact ⟨this.1, this.2.1, by omega⟩
  ·have := zJg hk (.inl h0); exact ⟨this.1, fun j hj => this.2 j (by omega), by have := this.2 k (by omega); omega⟩
  ·have := zJg hk (.inr h0); exact ⟨this.1, fun j hj => this.2 j (by omega), by have := this.2 k (by omega); omega⟩
  ·exact absurd h0 h
 ·rintro ⟨h1, h2, h3⟩ h0
  have g1 : zX q p ≠ 1 := by omega
  have g2 : zX q p ≠ 2 := by omega
  have g3 : zX q p ≠ 3 := by omega
  rw [Ne, zIt hk] at g1
  have e : iAt q k = iAt p k := by
   rcases Int.lt_or_le (iAt q k) (iAt p k) with h | h
   ·exact absurd ⟨h1, h2, h⟩ g1
   ·omega
  have ea : ∀ j, j < k + 1 -> iAt q j = iAt p j := fun j hj => by
   rcases (show j < k ∨ j = k by omega) with h | rfl
   ·exact h2 j h
   ·exact e
  rcases (show k + 1 = p.length ∨ k + 1 < p.length by omega) with h | h
  ·rw [Ne, zCw] at g2
   exact g2 (zL1 (by omega) (fun j hj => ea j (by omega)))
  ·rw [Ne, zL6] at g3
   exact g3 ⟨by omega, fun j hj => ea j (by omega)⟩
theorem zF4 (q p : List Int) : zX q p = 0 ∨ zX q p = 1 ∨ zX q p = 2 ∨ zX q p = 3 := by
 rcases zAt q p with ⟨h, _⟩ | ⟨h, _⟩ | ⟨h, _⟩ | ⟨h, _⟩ <;> omega
theorem zOv (l : List Int) (k : Nat) (v : Int) : plusL l k [v] = addL l k v := rfl
theorem plus2 (l : List Int) (k : Nat) (v u : Int) : plusL l k [v, u] = addL (addL l k v) (k + 1) u := rfl
theorem zQs {q p : List Int} {k : Nat} (hk : q.length = k + 1) : jH 2 q 0 p = if zX q p = 0 then (p, true) else if zX q p = 1 then (addL p k (-1), true) else noR := by
 unfold jH; rw [if_neg (by omega), if_neg (by decide), if_pos rfl, hk]; rfl
theorem zHi (x : Int) (q : List Int) : zX (x :: q) [] = 0 := by
 rcases Classical.em (zX (x :: q) [] = 0) with h | h
 ·exact h
 ·have := ((zE6 (k := q.length) (by simp)).1 h).1
  simp at this
theorem zF5 (x : Int) (q : List Int) (y : Int) (p : List Int) (hq : q ≠ []) : zX (x :: q) (y :: p) = if x = y then zX q p else 0 := by
 obtain ⟨k, hk⟩ : ∃ k, q.length = k + 1 := ⟨q.length - 1, by have := List.length_pos_iff.2 hq; omega⟩
 by_cases e : x = y
 ·subst e
  rw [if_pos rfl]
  unfold zX
  have e1 : zFg (x :: q) (x :: p) = zFg q p := by
   unfold zFg; simp [kO, iAt]
  have e2 : zEd (x :: q) (x :: p) = zEd q p := by unfold zEd; simp
  rw [e1, e2, zIs]
 ·rw [if_neg e]
  rcases Classical.em (zX (x :: q) (y :: p) = 0) with h | h
  ·exact h
  ·have := ((zE6 (k := k + 1) (by simp [hk])).1 h).2.1 0 (by omega)
   simp [iAt] at this
   exact absurd this e
theorem zL2 (x y : Int) (p : List Int) : (zX [x] (y :: p) = 0 ↔ y < x) /\ (zX [x] (y :: p) = 1 ↔ x < y) := by
 have h1 := zE6 (q := [x]) (p := y :: p) (k := 0) rfl
 have h2 := zIt (q := [x]) (p := y :: p) (k := 0) rfl
 simp [iAt] at h1 h2
 exact ⟨⟨fun h => by omega, fun h => by omega⟩, h2⟩
theorem zJc {K pos : Int} {q p : List Int} (hK : K = 1 ∨ K = 2) : jH K q pos p = jH K q 0 p := by rcases hK with rfl | rfl <;> rfl
end Go.Proofs.YtmkciabefepelaaGreat
namespace Go.Proofs.YtmkciabefepelaaGreat
open Go.RowKit
section
variable {W : World} {c d : OC} {a b : OpP} {E : Bool}
theorem kGx {s t : Sl} {si ti : Bool} {A B C D : Option Addr} {na ca nb cb nc cc nd cd : Nat} {x y u v : Int} (h : zIi W si A na ca x B nb cb y s) (g : zIi W ti C nc cc u D nd cd v t) (h1 : na <= 10000000) (h2 : nb <= 10000000) (h3 : nc <= 10000000) (h4 : nd <= 10000000) (hs : zF7 s t = E) :
  Calls Tryz.prog 16 #[.agg #[.bool si, .slice A na ca, .int .i64 x, .slice B nb cb, .int .i64 y], .agg #[.bool ti, .slice C nc cc, .int .i64 u, .slice D nd cd, .int .i64 v]] W (jA (.bool E) W) := by
 obtain ⟨a1, a2⟩ := h.two h1 h2
 obtain ⟨b1, b2⟩ := g.two h3 h4
 have e1 := h.his
 have e2 := h.hx
 have e3 := h.hy
 have e4 := g.his
 have e5 := g.hx
 have e6 := g.hy
 subst hs e1 e2 e3 e4 e5 e6
 exact zQw W s t A B C D na nb nc nd ca cb cc cd a1 a2 b1 b2
end
end Go.Proofs.YtmkciabefepelaaGreat
namespace Go.Proofs.YtmkciabefepelaaGreat
theorem zKc {K pos n aff : Int} {q t : List Int} {p y : List Int × Int} (h : zEr K q t pos n aff p = (y, true)) : ∃ x, zDx aff /\ 0 <= p.2 /\ p.2 <= 1048576 /\ jF K q t pos p.1 = (x, true) /\ (if q = p.1 then zXx K q pos n aff x p.2 else ((x, p.2), true)) = (y, true) := by
 unfold zEr at h
 split at h
 ·rename_i hc
  obtain ⟨h1, h2, h3, h4⟩ := hc
  refine ⟨(jF K q t pos p.1).1, h1, h2, h3, Prod.ext rfl h4, h⟩
 ·cases h
theorem zAz {ks o : List NT} {i m j : Nat} (h : j < o.length) (hi : i <= ks.length) : (spl ks i m o)[i + j]? = o[j]? := by
 unfold spl
 have e : (ks.take i).length = i := by simp; omega
 rw [List.append_assoc, List.getElem?_append_right (by omega), e, show i + j - i = j by omega, List.getElem?_append_left h]
theorem zCj {ks o : List NT} {i m j : Nat} (hi : i + m <= ks.length) : (spl ks i m o)[i + o.length + j]? = ks[i + m + j]? := by
 unfold spl
 have e : (ks.take i).length = i := by simp; omega
 rw [List.append_assoc, List.getElem?_append_right (by omega), e, List.getElem?_append_right (by omega), show i + o.length + j - i - o.length = j by omega, List.getElem?_drop]
theorem zZi.whole {n x k : NT} {p u : List Int} {i : Nat} (h : zZi n p u i x k) : kB n p = some k := by
 rw [h.path, jJ, h.at_]
 show kB x [(i : Int)] = _
 rw [zR, zA9, h.kid]; rfl
end Go.Proofs.YtmkciabefepelaaGreat
namespace Go.Proofs.YtmkciabefepelaaGreat
open Go.RowKit
theorem zJd (b k : NT) : sizeT (zAo b k) + 1 = sizeT b + sizeT k := by
 rw [jC (zAo b k), jC b, jC k]
 show 1 + (b.tx ++ k.tx).length + sizeK (b.ks ++ k.ks) + 1 = _
 rw [kZ, List.length_append]; omega
theorem zF6 (k : NT) (ps : List Pr) : sizeT (zEs k ps) = sizeT k := by rw [jC k]; simp only [zEs, sizeT]
theorem zDe (k : NT) (tx : List Int) : sizeT (zCz k tx) + k.tx.length = sizeT k + tx.length := by rw [jC k]; simp only [zCz, sizeT]; omega
theorem zHe {ks : List NT} {i : Nat} {k k' : NT} (h : ks[i]? = some k) (e : zAy k' = zAy k) : textK (ks.set i k') = textK ks := by
 obtain ⟨h1, h2⟩ := List.getElem?_eq_some_iff.1 h
 rw [List.set_eq_take_append_cons_drop, if_pos h1, jQ]
 have e2 : textK ks = textK (ks.take i) ++ textK (ks.drop i) := by rw [<- jQ, List.take_append_drop]
 rw [zCo h] at e2
 rw [e2]
 simp only [textK, e]
theorem zAs (n : NT) : zAy n = n.tx ++ textK n.ks := by cases n; simp only [zAy, NT.tx, NT.ks]
theorem zFi : ∀ (n : NT) (p : List Int) (m x : NT), kB n p = some x -> zAy m = zAy x -> zAy (putT n p m) = zAy n
 | n, [], m, x => fun h e => by injection h with h; rw [putT, h, e]
 | n, i :: r, m, x => by
  rw [zR]
  cases h : zBh n i with
  | none => intro h2; cases h2
  | some k =>
   intro h2 e
   simp only [putT, h]
   obtain ⟨k1, k2, k3⟩ := zA1 h
   rw [zAs (setK n i.toNat (putT k r m)), zAs n, zM5 (by omega), zHe k3 (zFi k r m x h2 e)]
   rfl
theorem zEm {n k : NT} {i : Nat} (h : zAh n = 0) (hk : n.ks[i]? = some k) : n.lf = false := by
 cases hl : n.lf
 ·rfl
 ·rw [((kY n).1 h).2.1 hl] at hk; simp at hk
theorem zE7 {x : NT} {i m : Nat} {o : List NT} (h : zAh x = 0) (hl : x.lf = false) (ho : ∀ k ∈ o, zAh k = 0) : zAh (jS x i m o) = 0 := by
 obtain ⟨h1, h2, h3, h4, h5⟩ := (kY x).1 h
 refine (kY _).2 ⟨h1, fun e => ?_, h3, h4, fun k hk => ?_⟩
 ·have e2 : x.lf = true := e
  rw [hl] at e2; cases e2
 ·have hk2 : k ∈ spl x.ks i m o := hk
  unfold spl at hk2
  rcases List.mem_append.1 hk2 with h6 | h6
  ·rcases List.mem_append.1 h6 with h7 | h7
   ·exact h5 k (List.mem_of_mem_take h7)
   ·exact ho k h7
  ·exact h5 k (List.mem_of_mem_drop h6)
theorem zIu : ∀ (n : NT) (p : List Int) (m x : NT), zAh n = 0 -> kB n p = some x -> zAh m = 0 -> zAh (putT n p m) = 0
 | n, [], m, x => fun _ _ h => h
 | n, i :: r, m, x => by
  rw [zR]
  cases hk : zBh n i with
  | none => intro _ h2; cases h2
  | some k =>
   intro h h2 hm
   simp only [putT, hk]
   have k3 := (zA1 hk).2.2
   exact zE7 h (zEm h k3) (fun y hy => by
    rw [List.mem_singleton] at hy; subst hy
    exact zIu k r m x (zAk h k3) h2 hm)
theorem zQv : ∀ (n : NT) (p : List Int) (m x : NT), kB n p = some x -> m.lf = x.lf -> (putT n p m).lf = n.lf
 | n, [], m, x => fun h e => by injection h with h; subst h; exact e
 | n, i :: r, m, x => by
  rw [zR]
  cases hk : zBh n i with
  | none => intro h2; cases h2
  | some k => intro _ _; simp only [putT, hk]; rfl
theorem zHj {tx : List Int} : zNh tx = 0 ↔ okR tx = true := by
 unfold zNh
 cases okR tx <;> simp
theorem zSs {b k : NT} (hb : zAh b = 0) (hk : zAh k = 0) (hl : b.lf = k.lf) : zAh (zAo b k) = 0 := by
 obtain ⟨b1, b2, b3, b4, b5⟩ := (kY b).1 hb
 obtain ⟨k1, k2, k3, k4, k5⟩ := (kY k).1 hk
 refine (kY _).2 ⟨b1, fun e => ?_, fun e => ?_, ?_, fun y hy => ?_⟩
 ·show b.ks ++ k.ks = []
  rw [b2 e, k2 (hl ▸ e)]; rfl
 ·show b.tx ++ k.tx = []
  rw [b3 e, k3 (hl ▸ e)]; rfl
 ·show zNh (b.tx ++ k.tx) = 0
  rw [zHj] at b4 k4 ⊢
  rw [zBq, b4, k4]; rfl
 ·rcases List.mem_append.1 (show y ∈ b.ks ++ k.ks from hy) with h | h
  ·exact b5 y h
  ·exact k5 y h
theorem zOw {k : NT} (hk : zAh k = 0) (i : Nat) : zAh (jN k i) = 0 := by
 obtain ⟨k1, k2, k3, k4, k5⟩ := (kY k).1 hk
 unfold jN
 by_cases h : k.lf = true
 ·rw [if_pos h]
  exact (kY _).2 ⟨k1, k2, fun e => absurd (show k.lf = false from e) (by simp [h]), by
   show zNh (k.tx.take i) = 0
   rw [zHj] at k4 ⊢
   exact zFj k4 i, k5⟩
 ·rw [if_neg h]
  exact (kY _).2 ⟨k1, fun e => absurd (show k.lf = true from e) h, k3, k4, fun y hy => k5 y (List.mem_of_mem_take hy)⟩
theorem zOx {k : NT} (hk : zAh k = 0) (i : Nat) {w : List Pr} (hw : chk w = 0) : zAh (zA2 k i w) = 0 := by
 obtain ⟨k1, k2, k3, k4, k5⟩ := (kY k).1 hk
 unfold zA2
 by_cases h : k.lf = true
 ·rw [if_pos h]
  exact (kY _).2 ⟨hw, fun _ => rfl, fun e => absurd (show k.lf = false from e) (by simp [h]), by
   show zNh (k.tx.drop i) = 0
   rw [zHj] at k4 ⊢
   exact zFk k4 i, fun y hy => absurd (show y ∈ ([] : List NT) from hy) (by simp)⟩
 ·rw [if_neg h]
  exact (kY _).2 ⟨hw, fun e => absurd (show k.lf = true from e) h, fun _ => rfl, rfl, fun y hy => k5 y (List.mem_of_mem_drop hy)⟩
theorem zL3 {k : NT} (hk : zAh k = 0) {ps : List Pr} (hp : chk ps = 0) : zAh (zEs k ps) = 0 := by
 obtain ⟨k1, k2, k3, k4, k5⟩ := (kY k).1 hk
 exact (kY _).2 ⟨hp, k2, k3, k4, k5⟩
theorem zHk {k : NT} (hk : zAh k = 0) (hl : k.lf = true) {tx : List Int} (hx : zNh tx = 0) : zAh (zCz k tx) = 0 := by
 obtain ⟨k1, k2, k3, k4, k5⟩ := (kY k).1 hk
 exact (kY _).2 ⟨k1, k2, fun e => absurd (show k.lf = false from e) (by simp [hl]), hx, k5⟩
end Go.Proofs.YtmkciabefepelaaGreat
