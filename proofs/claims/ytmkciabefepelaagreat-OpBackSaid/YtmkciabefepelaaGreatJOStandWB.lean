/- Where a node stands behind an operation that could be done; -/
import Derived.Test.YtmkciabefepelaaGreatJOPathWB
import Derived.Test.YtmkciabefepelaaGreatJOForm
import Derived.Test.YtmkciabefepelaaGreatJUDo
import Derived.Test.YtmkciabefepelaaGreatJUApp
import Derived.Test.YtmkciabefepelaaGreatJUAhead
import Derived.Test.YtmkciabefepelaaGreatJUBase
import Derived.Test.YtmkciabefepelaaGreatJQPlain
import Derived.Test.YtmkciabefepelaaGreatJXMove5
import Derived.Test.YtmkciabefepelaaGreatJIPathWB
import Derived.Test.YtmkciabefepelaaGreatJKTold
import Derived.Test.YtmkciabefepelaaGreatXMove
import Derived.Test.YtmkciabefepelaaGreatJXCalls
import Derived.Test.YtmkciabefepelaaGreatJTTree
import Derived.Test.YtmkciabefepelaaGreatJIAlike
import Derived.Test.YtmkciabefepelaaGreatJIPath
import Derived.Test.YtmkciabefepelaaGreatProg
import Derived.WalkKit
import Derived.WalkLawsBesides
import Derived.WalkSpells
import Derived.LoopTactic
import Derived.Outline
import Derived.Deep.Draws
import Derived.Deep.QuietTactic
import Derived.BigQuiet
import Derived.Below
import Derived.Laws.OwnMore
import Derived.Laws.MakeOwn
import Derived.Maps.AppendAt
import Derived.Deep.AppendLies
import Derived.RegionTactic
import Derived.OwnWalk
import Derived.WideShapes
import Derived.IntWalk
import Derived.Laws.Strings
import Derived.Laws.AppendOwnNone
import Derived.Lib.AppendZeros
import Derived.Lib.SliceRun
import Derived.StillTailTactics
import Derived.Deep.Cut
import Derived.Deep.RegionHeld3
import Derived.Deep.RegionLaw
import Derived.BigRegion
import Derived.Deep.MidRow
import Derived.Laws.Tables
import Derived.Test.YtmkciabefepelaaGreatJNRSame
import Derived.Test.YtmkciabefepelaaGreatJNEach
import Derived.Test.YtmkciabefepelaaGreatJPSame
import Derived.Laws.EntriesVeiled
import Derived.Shelf.Abstract
import Derived.Test.YtmkciabefepelaaGreatNCopy
import Derived.Laws.IdiomStrings
import Derived.Deep.DeepCutAuto
import Derived.Deep.CutBlock
import Derived.Laws.ResultCell
import Derived.Maps.OwnOps
import Derived.Test.YtmkciabefepelaaGreatJTCut
import Derived.Test.YtmkciabefepelaaGreatJTPut
import Derived.Test.YtmkciabefepelaaGreatTChange
import Derived.Test.YtmkciabefepelaaGreatJTGet
import Derived.ArgAppend
import Derived.Test.YtmkciabefepelaaGreatJBFew
import Derived.Test.YtmkciabefepelaaGreatBFresh
import Derived.Test.YtmkciabefepelaaGreatJCAny
import Derived.OrdersHeld
import Derived.Test.YtmkciabefepelaaGreatBInv
import Derived.Test.YtmkciabefepelaaGreatJBWith
import Derived.Test.YtmkciabefepelaaGreatBEmpty
import Derived.Test.YtmkciabefepelaaGreatUStay
import Derived.Test.YtmkciabefepelaaGreatJYMove2
import Derived.Great.BuildSlice
import Derived.Test.YtmkciabefepelaaGreatJUChg
import Derived.Test.YtmkciabefepelaaGreatUMean
import Derived.Test.YtmkciabefepelaaGreatJGCat
import Derived.Test.YtmkciabefepelaaGreatJQRow
import Derived.Maps.StringElems
import Derived.Shelf.GgSortFunc.InsertionK
import Derived.Shelf.SlLaysF0
import Derived.Lib.Bytealg
import Derived.Shelf.SlSortCmp.WholeK
import Derived.Sort.OwnSorted
import Derived.Laws.BitsLemmas
import Derived.Test.YtmkciabefepelaaGreatJUTxt
import Derived.Test.YtmkciabefepelaaGreatJUSplL
import Derived.Test.YtmkciabefepelaaGreatJUMerP
import Derived.Test.YtmkciabefepelaaGreatJNTopO
import Derived.Test.YtmkciabefepelaaGreatJUMerL
set_option maxRecDepth 4000
set_option maxHeartbeats 8000000
namespace Go.Proofs.YtmkciabefepelaaGreat
open Go.RowKit
theorem zDz {k : Int} {q p : List Int} {z : Int} (h : 6 <= k) : jH k q z p = (p, true) := by
 unfold jH
 split
 ·rfl
 ·rw [if_neg (by omega), if_neg (by omega), if_neg (by omega), if_neg (by omega)]
def zTf (y y' : NT) : Prop := y'.lf = y.lf /\ y.tx.length <= y'.tx.length
theorem kE.up {y y' : NT} (h : kE y y') : zTf y y' := ⟨h.1, by rw [h.2]; exact Nat.le_refl _⟩
theorem zTg {n a y : NT} {o : OpP} {p p' : List Int} (hm : ∀ u x, kB n u = some x -> x.ks.length < 9223372036854775807) (hn : zAh n = 0) (h1 : 1 <= o.k) (h8 : o.k <= 8) (h : doO n o = (a, 0)) (hy : kB n p = some y) (hmv : jF o.k o.q o.t o.z p = (p', true)) :
  ∃ y', kB a p' = some y' /\ (p ≠ o.q -> zTf y y' /\ (¬ (o.k = 3 /\ p = (jV o.q).1) -> kE y y')) := by
 have fin : ∀ {y' : NT} , kE y y' -> (p ≠ o.q -> zTf y y' /\ (¬ (o.k = 3 /\ p = (jV o.q).1) -> kE y y')) := fun h _ => ⟨h.up, fun _ => h⟩
 rcases zC7 h1 h8 h with ⟨e, h⟩ | ⟨e, h⟩ | ⟨e, h⟩ | ⟨e, h⟩ | ⟨e, h⟩ | ⟨e, h⟩ | ⟨e, h⟩ | ⟨e, h⟩
 ·obtain ⟨u, i, x, hf⟩ := zD7 (zCd h).2
  have hb := jD hmv (by omega)
  rw [e, zJc (.inl rfl), hf.path] at hb
  obtain ⟨y', g1, g2⟩ := zJl (m := o.n) hf.at_ hf.le hy
  rw [hb, <- hf.eq] at g1
  exact ⟨y', g1, fin g2⟩
 ·obtain ⟨h2, h3⟩ := zCl h
  obtain ⟨u, i, x, k, hf⟩ := zBn (n := n) (p := o.q) (by rw [h2])
  have hb := jD hmv (by omega)
  rw [e, zJc (.inr rfl), hf.path] at hb
  obtain ⟨y', g1, g2⟩ := zJm hf.at_ (List.getElem?_eq_some_iff.1 hf.kid).1 hy hb
  have he := hf.eq
  rw [h2] at he
  dsimp only at he
  rw [<- he] at g1
  exact ⟨y', g1, fin g2⟩
 ·obtain ⟨u, i, x, b, k, hf⟩ := zC5 h
  have hb := jD hmv (by omega)
  have hx := zA6 n u x hn hf.at_
  rw [e, hf.path] at hb
  have hbk := zFy u i
  rw [<- hf.path] at hbk
  obtain ⟨y', g1, g2⟩ := zO6 (m := zAo b k) hf.at_ hf.b_ hf.k_ rfl (fun hne => by
   have hkl : k.lf = false := by
    cases hl : k.lf
    ·rfl
    ·exact absurd ((kX (zAk hx hf.k_)).1 hl) hne
   have htx := (kX (zAk hx hf.b_)).2 (hf.leaf.trans hkl)
   rw [<- hf.pos]; unfold zG9; rw [htx]; simp) hy hb
  rw [<- hf.eq] at g1
  refine ⟨y', g1, fun hne => ?_⟩
  rw [hf.path] at hne
  by_cases hpb : p = u ++ [(i : Int)]
  ·rw [if_pos (.inl hpb)] at g2
   have hyb : y = b := by
    rw [hpb, zAc hf.at_, zA9, hf.b_] at hy
    injection hy with hy
    exact hy.symm
   subst g2
   subst hyb
   exact ⟨⟨rfl, by show y.tx.length <= (y.tx ++ k.tx).length; simp⟩, fun hc => absurd ⟨e, by rw [hbk]; exact hpb⟩ hc⟩
  ·rw [if_neg (by rintro (h | h); exact hpb h; exact hne h)] at g2
   exact ⟨g2.up, fun _ => g2⟩
 ·obtain ⟨u, i, x, k, hf⟩ := zCc hm h
  have hb := jD hmv (by omega)
  have hx := zA6 n u x hn hf.at_
  have hck := zAk hx hf.kid
  rw [e, hf.path, show o.z = ((o.z.toNat : Nat) : Int) by have := hf.lo; omega] at hb
  obtain ⟨y', g1, g2⟩ := zO7 (h := jN k o.z.toNat) (t := zA2 k o.z.toNat o.w) hf.at_ hf.kid (by
   unfold jN
   by_cases hl : k.lf = true
   ·rw [if_pos hl]; show k.ks = _; rw [(kX hck).1 hl]; simp
   ·rw [if_neg hl]; rfl) (by
   unfold zA2
   by_cases hl : k.lf = true
   ·rw [if_pos hl]; show [] = _; rw [(kX hck).1 hl]; simp
   ·rw [if_neg hl]; rfl) hy hb
  rw [<- hf.eq] at g1
  refine ⟨y', g1, fun hne => ?_⟩
  rw [hf.path] at hne
  rw [if_neg hne] at g2
  exact ⟨g2.up, fun _ => g2⟩
 ·obtain ⟨h2, h3⟩ := zBz h
  obtain ⟨u, i, x, k, hf⟩ := zBn h2
  obtain ⟨u2, i2, x2, hf2⟩ := zD7 h3
  have hlen := (List.getElem?_eq_some_iff.1 hf.kid).1
  have hg : (jI p && jI o.q && jI o.t && zE9 o.z) = true := by
   by_cases hg : (jI p && jI o.q && jI o.t && zE9 o.z) = true
   ·exact hg
   ·unfold jF at hmv
    rw [if_neg hg] at hmv
    exact absurd (zO hmv).2 (by decide)
  have hql : o.q.length ≠ 0 := by rw [hf.path]; simp
  have hmv2 : (if zX o.q p = 2 ∨ zX o.q p = 3 then (o.t ++ p.drop o.q.length, true) else jH 1 o.t 0 (jH 2 o.q 0 p).1) = (p', true) := by
   have e2 := hmv
   unfold jF at e2
   rw [if_pos hg, if_pos ⟨e, hql⟩] at e2
   exact e2
  have hca := hf2.eq
  by_cases hs : zX o.q p = 2 ∨ zX o.q p = 3
  ·rw [if_pos hs] at hmv2
   have hpq : ∃ r, p = o.q ++ r := by
    rcases hs with hs | hs
    ·exact ⟨[], by rw [zCw.1 hs]; simp⟩
    ·obtain ⟨s1, s2⟩ := zL6.1 hs
     refine ⟨p.drop o.q.length, ?_⟩
     have e3 : p.take o.q.length = o.q := by
      refine zL1 (by simp; omega) (fun j hj => ?_)
      simp at hj
      rw [jY _ _ (by simp; omega), List.getElem_take, <- jY _ _ (by omega)]
      exact (s2 j (by omega)).symm
     conv => lhs; rw [<- List.take_append_drop o.q.length p, e3]
   obtain ⟨r, rfl⟩ := hpq
   rw [List.drop_left] at hmv2
   have hyk : kB k r = some y := by
    rw [jJ, hf.whole] at hy; exact hy
   rw [<- (zO hmv2).1, hf2.path]
   refine ⟨y, ?_, fin (kE.refl y)⟩
   rw [List.append_assoc]
   show kB a (u2 ++ (i2 : Int) :: r) = _
   rw [hf2.eq]
   have hin := zAz (ks := x2.ks) (o := [zE3 n o.q]) (i := i2) (m := 0) (j := 0) (by simp) hf2.le
   rw [hf.got] at hin ⊢
   exact (zAw (x' := jS x2 i2 0 [k]) hf2.at_ i2 r (by show (spl x2.ks i2 0 [k])[i2]? = some k; simpa using hin)).trans hyk
  ·rw [if_neg hs] at hmv2
   have hrem : jH 2 o.q 0 p = ((jH 2 o.q 0 p).1, true) := by
    have hst := zF4 o.q p
    rw [hf.path] at hs hst ⊢
    rw [zQs (k := u.length) (by simp)]
    rcases hst with h0 | h0 | h0 | h0
    ·rw [if_pos h0]
    ·rw [if_neg (by omega), if_pos h0]
    ·exact absurd (.inl h0) hs
    ·exact absurd (.inr h0) hs
   rw [hf.path] at hrem hmv2
   obtain ⟨y1, g1, g2⟩ := zJm hf.at_ hlen hy hrem
   have hce := hf.eq
   have h3' := hf2.at_
   rw [hce] at h3'
   obtain ⟨y2, g3, g4⟩ := zJl (m := zE3 n o.q) h3' hf2.le g1
   rw [hf2.path] at hmv2
   rw [hmv2] at g3
   have ha2 := hf2.eq
   rw [hce] at ha2
   rw [<- ha2] at g3
   exact ⟨y2, g3, fin ⟨g4.1.trans g2.1, g4.2.trans g2.2⟩⟩
 ·obtain ⟨k, hq, hg, hc, rfl⟩ := zC6 h
  have hb := jD hmv (by omega)
  rw [zDz (by omega)] at hb
  rw [<- (zO hb).1]
  obtain ⟨y', g1, g2⟩ := zGx (k' := zEs k (zA7 k.ps o.o o.w)) hg rfl rfl hy
  refine ⟨y', g1, fun hne => ?_⟩
  rw [if_neg hne] at g2
  exact ⟨g2.up, fun _ => g2⟩
 ·obtain ⟨k, hg, hl, h0, rfl⟩ := jZ h
  have hb := jD hmv (by omega)
  rw [zDz (by omega)] at hb
  rw [<- (zO hb).1]
  obtain ⟨y', g1, g2⟩ := zGx (k' := zCz k (zFx k.tx o.z o.x).1) hg rfl rfl hy
  refine ⟨y', g1, fun hne => ?_⟩
  rw [if_neg hne] at g2
  exact ⟨g2.up, fun _ => g2⟩
 ·obtain ⟨k, hg, hl, h0, rfl⟩ := jZ h
  have hb := jD hmv (by omega)
  rw [zDz (by omega)] at hb
  rw [<- (zO hb).1]
  obtain ⟨y', g1, g2⟩ := zGx (k' := zCz k (zFe k.tx o.z o.x).1) hg rfl rfl hy
  refine ⟨y', g1, fun hne => ?_⟩
  rw [if_neg hne] at g2
  exact ⟨g2.up, fun _ => g2⟩
theorem zCm {n : NT} {p : List Int × Int} : zK6 n p = 0 ↔ ∃ m, kB n p.1 = some m /\ m.lf = true /\ 0 <= p.2 /\ p.2 <= m.tx.length := by
 unfold zK6
 cases hg : kB n p.1 with
 | none => simp
 | some m =>
  simp only [Option.some.injEq, exists_eq_left']
  cases hl : m.lf
  ·simp
  ·by_cases h2 : p.2 < 0 ∨ (m.tx.length : Int) < p.2
   ·simp [h2]; omega
   ·simp [h2]; omega
theorem zMn {q : List Int} {v : Int} (hq : q.length ≠ 0) (hv : v ≠ 0) : addL q (q.length - 1) v ≠ q := fun e => by
 have h := zSv q (q.length - 1) v (by omega)
 rw [e] at h
 omega
theorem zO8 {K off z m : Int} {q x : List Int} (h : zXx K q z m 1 x off = ((q, off), true)) : (K = 7 /\ x = q /\ (if zEl off z 1 = true then off + m else off) = off) ∨ (K = 8 /\ x = q /\ (if z < off then max (off - m) z else off) = off) ∨ (K = 3 /\ q.length ≠ 0 /\ x = q) ∨ (K = 4 /\ q.length ≠ 0 /\ x = q /\ off < z) ∨ (K = 4 /\ q.length ≠ 0 /\ addL q (q.length - 1) 1 = q) ∨ (K ≠ 7 /\ K ≠ 8 /\ ¬ (K = 4 /\ q.length ≠ 0) /\ x = q) := by
 unfold zXx at h
 by_cases h7 : K = 7
 ·rw [if_pos h7] at h
  injection h with h _
  injection h with h1 h2
  exact .inl ⟨h7, h1, h2⟩
 rw [if_neg h7] at h
 by_cases h8 : K = 8
 ·rw [if_pos h8] at h
  injection h with h _
  injection h with h1 h2
  exact .inr (.inl ⟨h8, h1, h2⟩)
 rw [if_neg h8] at h
 by_cases h3 : K = 3 /\ q.length ≠ 0
 ·rw [if_pos h3] at h
  injection h with h _
  injection h with h1 h2
  exact .inr (.inr (.inl ⟨h3.1, h3.2, h1⟩))
 rw [if_neg h3] at h
 by_cases h4 : K = 4 /\ q.length ≠ 0
 ·rw [if_pos h4, if_neg (by omega)] at h
  by_cases hp : zEl off z 1 = true
  ·rw [if_pos hp] at h
   injection h with h _
   injection h with h1 h2
   exact .inr (.inr (.inr (.inr (.inl ⟨h4.1, h4.2, h1⟩))))
  ·rw [if_neg hp] at h
   injection h with h _
   injection h with h1 h2
   refine .inr (.inr (.inr (.inl ⟨h4.1, h4.2, h1, ?_⟩)))
   simp [zEl] at hp
   omega
 rw [if_neg h4] at h
 injection h with h _
 injection h with h1 h2
 exact .inr (.inr (.inr (.inr (.inr ⟨h7, h8, h4, h1⟩))))
theorem zCn {K z : Int} {q x : List Int} (hq : q.length ≠ 0) (h : jH K q z q = (x, true)) : (K = 1 -> x ≠ q) /\ K ≠ 2 /\ (K = 3 -> x ≠ q) := by
 have hs : zX q q = 2 := zCw.2 rfl
 unfold jH at h
 rw [if_neg hq, hs] at h
 refine ⟨fun e => ?_, fun e => ?_, fun e => ?_⟩
 ·rw [if_pos e, if_neg (by decide), zOv] at h
  rw [<- (zO h).1]; exact zMn hq (by decide)
 ·rw [if_neg (by omega), if_pos e, if_neg (by decide), if_neg (by decide)] at h
  exact absurd (zO h).2 (by decide)
 ·rw [if_neg (by omega), if_neg (by omega), if_pos e] at h
  by_cases hl : lastL q = 0
  ·rw [if_pos hl] at h; exact absurd (zO h).2 (by decide)
  ·rw [if_neg hl, if_neg (by decide), if_neg (by decide), zOv] at h
   rw [<- (zO h).1]; exact zMn hq (by decide)
theorem zJp {n a : NT} {o : OpP} {p : List Int × Int} (hm : ∀ u x, kB n u = some x -> x.ks.length < 9223372036854775807) (hn : zAh n = 0) (h1 : 1 <= o.k) (h8 : o.k <= 8) (h : doO n o = (a, 0)) (hp : zK6 n p = 0) (hs : zBl p o = true) : zK6 a p = 0 := by
 obtain ⟨m, hg, hl, l1, l2⟩ := zCm.1 hp
 unfold zBl at hs
 rw [Bool.and_eq_true] at hs
 have hmv := of_decide_eq_true hs.1
 obtain ⟨x, _, _, _, hx, hown⟩ := zKc hmv
 by_cases hq : o.q = p.1
 case neg =>
  rw [if_neg hq] at hown
  injection hown with hown _
  have hxp : x = p.1 := by rw [<- hown]
  rw [hxp] at hx
  obtain ⟨y', g1, g2⟩ := zTg hm hn h1 h8 h hg hx
  obtain ⟨g3, g4⟩ := (g2 (fun e => hq e.symm)).1
  exact zCm.2 ⟨y', g1, g3.trans hl, l1, by omega⟩
 rw [if_pos hq] at hown
 obtain ⟨p1, off⟩ := p
 simp only at hq hg l1 l2 hown hx
 subst hq
 have hqz : o.k ≠ 7 -> o.k ≠ 8 -> o.k ≠ 6 -> o.q.length ≠ 0 := fun e7 e8 e6 hq0 => by
  have hq1 := List.eq_nil_of_length_eq_zero hq0
  rcases zC7 h1 h8 h with ⟨e, h⟩ | ⟨e, h⟩ | ⟨e, h⟩ | ⟨e, h⟩ | ⟨e, h⟩ | ⟨e, h⟩ | ⟨e, h⟩ | ⟨e, h⟩
  ·obtain ⟨u, i, x, hf⟩ := zD7 (zCd h).2
   have := hf.path; rw [hq1] at this; simp at this
  ·obtain ⟨u, i, x, k, hf⟩ := zBn (n := n) (p := o.q) (by rw [(zCl h).1])
   have := hf.path; rw [hq1] at this; simp at this
  ·obtain ⟨u, i, x, b, k, hf⟩ := zC5 h
   have := hf.path; rw [hq1] at this; simp at this
  ·obtain ⟨u, i, x, k, hf⟩ := zCc hm h
   have := hf.path; rw [hq1] at this; simp at this
  ·obtain ⟨u, i, x, k, hf⟩ := zBn (zBz h).1
   have := hf.path; rw [hq1] at this; simp at this
  ·exact e6 e
  ·exact e7 e
  ·exact e8 e
 rcases zO8 hown with ⟨e, hxq, hof⟩ | ⟨e, hxq, hof⟩ | ⟨e, hq0, hxq⟩ | ⟨e, hq0, hxq, hlt⟩ | ⟨e, hq0, hxq⟩ | ⟨e7, e8, e4, hxq⟩
 ·-- a text put in
  rw [kLp e] at h
  obtain ⟨k, hgk, hkl, h0, rfl⟩ := jZ h
  have hkm : k = m := by rw [hgk] at hg; injection hg
  subst hkm
  have h4 := zKi (r := k.tx) (s := o.x) (p := o.z) (l := (zFx k.tx o.z o.x).1) (Prod.ext rfl h0)
  exact zCm.2 ⟨_, jX n o.q _ k hgk, hkl, l1, by show off <= ((zFx k.tx o.z o.x).1.length : Int); omega⟩
 ·-- a text taken out
  rw [kLq e] at h
  obtain ⟨k, hgk, hkl, h0, rfl⟩ := jZ h
  have hkm : k = m := by rw [hgk] at hg; injection hg
  subst hkm
  have h4 := zKj (r := k.tx) (s := o.x) (p := o.z) (l := (zFe k.tx o.z o.x).1) (Prod.ext rfl h0)
  have h5 : 0 < o.x.length -> o.z + o.x.length <= k.tx.length /\ 0 <= o.z := fun hpos => by
   have h6 := h0
   unfold zFe at h6
   split at h6
   ·split at h6
    ·rename_i hr
     split at h6
     ·rename_i ht
      have := congrArg List.length ht
      rw [List.length_take, List.length_drop] at this
      omega
     ·cases h6
    ·cases h6
   ·cases h6
  refine zCm.2 ⟨_, jX n o.q _ k hgk, hkl, l1, ?_⟩
  show off <= ((zFe k.tx o.z o.x).1.length : Int)
  by_cases hx0 : 0 < o.x.length
  ·obtain ⟨h7, h8'⟩ := h5 hx0
   by_cases hz : o.z < off
   ·rw [if_pos hz] at hof; omega
   ·omega
  ·omega
 ·exact absurd (hxq) ((zCn hq0 (jD hx (by omega))).2.2 e)
 ·-- the half ahead
  rw [kLm e] at h
  obtain ⟨u, i, xx, k, hf⟩ := zCc hm h
  have hgk : kB n o.q = some k := by rw [hf.path, zAc hf.at_, zA9, hf.kid]; rfl
  have hkm : k = m := by rw [hgk] at hg; injection hg
  subst hkm
  have hxx := zA6 n u xx hn hf.at_
  have hck := zAk hxx hf.kid
  have hlen := (List.getElem?_eq_some_iff.1 hf.kid).1
  obtain ⟨q1, q2, q3⟩ := zLj hck hf.lo hf.hi o.w
  have hm1 : (spl xx.ks i 1 [jN k o.z.toNat, zA2 k o.z.toNat o.w])[i]? = some (jN k o.z.toNat) := by
   have := zAz (ks := xx.ks) (o := [jN k o.z.toNat, zA2 k o.z.toNat o.w]) (i := i) (m := 1) (j := 0) (by simp) (by omega)
   simpa using this
  refine zCm.2 ⟨jN k o.z.toNat, ?_, ?_, l1, ?_⟩
  ·show kB a o.q = _
   rw [hf.eq, hf.path]
   exact zAw (x' := jS xx i 1 [jN k o.z.toNat, zA2 k o.z.toNat o.w]) hf.at_ i [] hm1
  ·unfold jN; rw [if_pos hl]; exact hl
  ·have h9 : ((jN k o.z.toNat).tx.length : Int) = o.z := by
    have hks : (jN k o.z.toNat).ks = [] := by unfold jN; rw [if_pos hl]; exact (kX hck).1 hl
    unfold zG9 at q1
    rw [hks] at q1
    simpa using q1
   show off <= _
   omega
 ·exact absurd hxq (zMn hq0 (by decide))
 ·-- SetNode, and a node moved to where it stood
  rcases (show o.k = 1 ∨ o.k = 2 ∨ o.k = 3 ∨ o.k = 4 ∨ o.k = 5 ∨ o.k = 6 by omega) with e | e | e | e | e | e
  ·exact absurd hxq ((zCn (hqz e7 e8 (by omega)) (jD hx (by omega))).1 e)
  ·exact absurd e (zCn (hqz e7 e8 (by omega)) (jD hx (by omega))).2.1
  ·exact absurd hxq ((zCn (hqz e7 e8 (by omega)) (jD hx (by omega))).2.2 e)
  ·exact absurd ⟨e, hqz e7 e8 (by omega)⟩ e4
  ·rw [kLn e] at h
   obtain ⟨h2, h3⟩ := zBz h
   obtain ⟨xx, k, hpl, hgx, hk, hcm, _, _, hadd⟩ := zM8 h2
   have hxx := zA6 n _ xx hn hgx
   have ha := hadd (zEm hxx (zA1 hk).2.2)
   have hto : o.t = o.q := by
    unfold jF at hx
    split at hx
    ·rw [if_pos ⟨e, hqz e7 e8 (by omega)⟩, if_pos (.inl (zCw.2 rfl))] at hx
     have := (zO hx).1
     simp at this
     exact this.trans hxq
    ·exact absurd (zO hx).2 (by decide)
   rw [hto, hcm, ha] at h3
   rw [<- (zO h3).1]
   exact hp
  ·rw [kLo e] at h
   obtain ⟨k, hq0, hgk, hc, rfl⟩ := zC6 h
   have hkm : k = m := by rw [hgk] at hg; injection hg
   subst hkm
   exact zCm.2 ⟨_, jX n o.q _ k hgk, hl, l1, l2⟩
theorem zZr {n : NT} {s : Sl} {o : OpP} (h1 : zAd n = 0) (h2 : n.lf = false) (h3 : zE8 n s = 0) (h4 : zCx o = 0) (h9 : o.k = 9) (h5 : s = o.f) (h6 : zE8 n o.g = 0) : jL n s o = ((n, o.g), 0) := by
 unfold jL
 rw [if_neg (by simp [h1]), if_neg (by simp [h2]), if_neg (by simp [h3]), if_neg (by simp [h4]), if_pos h9, if_neg (by simp [(zC4 s o.f).2 h5]), if_neg (by simp [h6])]
theorem zGc {n : NT} {s : Sl} (h : s.is = true) : zE8 n s = 0 ↔ zK6 n s.a = 0 /\ zK6 n s.f = 0 := by
 unfold zE8
 rw [if_neg (by simp [h])]
 by_cases h1 : zK6 n s.a = 0
 ·rw [if_pos h1]; simp [h1]
 ·rw [if_neg h1]; simp [h1]
theorem zO9 {n m : NT} {s : Sl} (h : s.is = false) : zE8 n s = zE8 m s := by unfold zE8; rw [if_pos h, if_pos h]
theorem zD0 {n a : NT} {s t : Sl} {o : OpP} (hm : zTc n o) (h : jL n s o = ((a, t), 0)) : zAd a = 0 /\ a.lf = false /\ zE8 a t = 0 /\ t = (if o.k = 9 then o.g else s) /\ sizeT a <= 900 := by
 obtain ⟨h1, h2, h3, h4, h5⟩ := zH8 h
 rcases h5 with ⟨e, h5, h6, h7⟩ | ⟨k1, k8, h5, h6, h7⟩
 ·injection h7 with h7 h8
  subst h7
  subst h8
  exact ⟨h1, h2, h6, by rw [if_pos e], by have := hm.size; omega⟩
 ·dsimp only at h5 h7
  have hc := zC1 h1
  obtain ⟨g1, g2⟩ := zZp hm.len hc h2 k1 k8 (fun e => by rw [kKb e] at h5; exact zC1 (zCd h5).1) h5
  have hsz := zMm hm.len k1 k8 h5
  have hs1 := hm.size
  have hs2 := hm.node
  have hs3 := hm.text
  have hsz2 : sizeT a <= 900 := by
   unfold byO at hsz
   split at hsz
   ·rename_i e; have := hs2 e; omega
   ·split at hsz
    ·omega
    ·split at hsz
     ·omega
     ·split at hsz
      ·omega
      ·split at hsz
       ·omega
       ·split at hsz <;> omega
  refine ⟨zO5 g1 (by omega), g2, ?_, by rw [if_neg (by omega)]; exact h7, hsz2⟩
  subst h7
  cases his : t.is
  ·rw [zO9 (m := n) his]; exact h3
  ·obtain ⟨s1, s2⟩ := h6 his
   obtain ⟨p1, p2⟩ := (zGc his).1 h3
   exact (zGc his).2 ⟨zJp hm.len hc k1 k8 h5 p1 s1, zJp hm.len hc k1 k8 h5 p2 s2⟩
theorem zEv : ∀ (n : NT) (p : List Int) (x : NT), kB n p = some x -> zJb p = 0
 | n, [], x => fun _ => rfl
 | n, i :: r, x => by
  rw [zR]
  cases hk : zBh n i with
  | none => intro h; cases h
  | some k =>
   intro h
   have ih := zEv k r x h
   have h0 := (zA1 hk).1
   unfold zJb at ih ⊢
   rw [List.all_cons, decide_eq_true h0, Bool.true_and]
   exact ih
theorem zJq {u : List Int} {i : Nat} (h : zJb u = 0) : zJb (u ++ [(i : Int)]) = 0 := by
 unfold zJb at h ⊢
 rw [List.all_append]
 split at h
 ·rename_i h2; rw [h2]; simp
 ·cases h
theorem kKl {n a : NT} {o : OpP} (hm : ∀ u x, kB n u = some x -> x.ks.length < 9223372036854775807) (h1 : 1 <= o.k) (h8 : o.k <= 8) (h : doO n o = (a, 0)) : zJb o.q = 0 := by
 rcases zC7 h1 h8 h with ⟨e, h⟩ | ⟨e, h⟩ | ⟨e, h⟩ | ⟨e, h⟩ | ⟨e, h⟩ | ⟨e, h⟩ | ⟨e, h⟩ | ⟨e, h⟩
 ·obtain ⟨u, i, x, hf⟩ := zD7 (zCd h).2
  rw [hf.path]; exact zJq (zEv n u x hf.at_)
 ·obtain ⟨u, i, x, k, hf⟩ := zBn (n := n) (p := o.q) (by rw [(zCl h).1])
  rw [hf.path]; exact zJq (zEv n u x hf.at_)
 ·obtain ⟨u, i, x, b, k, hf⟩ := zC5 h
  rw [hf.path]; exact zJq (zEv n u x hf.at_)
 ·obtain ⟨u, i, x, k, hf⟩ := zCc hm h
  rw [hf.path]; exact zJq (zEv n u x hf.at_)
 ·obtain ⟨u, i, x, k, hf⟩ := zBn (zBz h).1
  rw [hf.path]; exact zJq (zEv n u x hf.at_)
 ·obtain ⟨k, hq, hg, hc, rfl⟩ := zC6 h
  exact zEv n _ k hg
 ·obtain ⟨k, hg, hl, h0, rfl⟩ := jZ h
  exact zEv n _ k hg
 ·obtain ⟨k, hg, hl, h0, rfl⟩ := jZ h
  exact zEv n _ k hg
theorem zRe {p : List Int × Int} {o : OpP} (h : zGl (zGl o).1 = (o, 0)) : zBl p (zGl o).1 = zBl p o := by
 unfold zBl
 rw [h, Bool.and_comm]
theorem zWl {k : Int} (h1 : 1 <= k) (h8 : k <= 8) : 1 <= zA0 k /\ zA0 k <= 8 := by
 rcases zV0 h1 (by omega) with e | e | e | e | e | e | e | e | e <;> subst e <;> (first | (unfold zA0; simp; done) | omega)
theorem zZs {o : OpP} (h1 : 1 <= o.k) (h8 : o.k <= 8) (h : (zAp o).2 = 0) : 1 <= (zAp o).1.k /\ (zAp o).1.k <= 8 := by
 unfold zAp at h ⊢
 by_cases h3 : o.k = 3
 ·rw [if_pos h3] at h ⊢
  by_cases hb : (jV o.q).2 = 0
  ·rw [if_pos hb]; simp
  ·rw [if_neg hb] at h; exact absurd h hb
 rw [if_neg h3] at h ⊢
 by_cases h4 : o.k = 4
 ·rw [if_pos h4] at h ⊢
  by_cases hb : (zBg o.q).2 = 0
  ·rw [if_pos hb]; simp
  ·rw [if_neg hb] at h; exact absurd h hb
 rw [if_neg h4] at h ⊢
 by_cases h6 : o.k = 6
 ·rw [if_pos h6]; simp
 rw [if_neg h6] at h ⊢
 by_cases h5 : o.k = 5
 ·rw [if_pos h5]; simp
 rw [if_neg h5] at h ⊢
 rw [if_neg (by omega)]
 exact zWl h1 h8
theorem zWm {n a : NT} {s t : Sl} {o : OpP} (hm : zTc n o) (hi : InI o.q) (h : jL n s o = ((a, t), 0)) : (zGl o).2 = 0 /\ jL a t (zGl o).1 = ((n, s), 0) := by
 obtain ⟨r1, r2, r3, r4, r5⟩ := zD0 hm h
 obtain ⟨h1, h2, h3, h4, h5⟩ := zH8 h
 have ei : zGl o = zAp o := by unfold zGl; rw [if_pos h4]
 rcases h5 with ⟨e, h5, h6, h7⟩ | ⟨k1, k8, h5, h6, h7⟩
 ·injection h7 with h7 h8
  subst h7
  subst h8
  have ef : zAp o = ({ o with k := 9, f := o.g, g := o.f }, 0) := by unfold zAp; simp [e]
  have hq : o.q = [] := by
   have hh := (zOy h4).2
   obtain ⟨k, q, t, z, n, ol, w, x, f, g⟩ := o
   simp only at e
   subst e
   simp [fieldsO, zeroO] at hh ⊢
   simp [hh]
  have hfo := (zYs (a := o) (by rw [ei, ef]) (by rw [hq]; exact InI.nil) (by rw [hq]; rfl)).1
  rw [ei, ef] at hfo ⊢
  refine ⟨rfl, ?_⟩
  have := zZr (n := a) (s := o.g) (o := { o with k := 9, f := o.g, g := o.f }) h1 h2 h6 hfo rfl rfl (by rw [<- h5]; exact h3)
  rw [this, <- h5]
 ·dsimp only at h5 h7
  have hc := zC1 h1
  obtain ⟨d1, d2⟩ := kHh hm.len (zN9 (by omega)) hc (by have := hm.size; omega) h4 k1 k8 h5
  obtain ⟨i1, i2⟩ := zYs (a := o) d1 hi (kKl hm.len k1 k8 h5)
  have hk : 1 <= (zGl o).1.k /\ (zGl o).1.k <= 8 := by rw [ei]; exact zZs k1 k8 (by rw [<- ei]; exact d1)
  refine ⟨d1, ?_⟩
  subst h7
  exact zQ8 r1 r2 r3 i1 hk.2 d2 (fun his => by rw [zRe i2, zRe i2]; exact h6 his)
theorem kMf (o : OpP) : (zGl o).1.n = o.n ∨ (zGl o).1.n = zeroT := by
 unfold zGl
 split
 ·unfold zAp
  split
  ·split
   ·exact .inl rfl
   ·exact .inr rfl
  ·split
   ·split
    ·exact .inl rfl
    ·exact .inr rfl
   ·split
    ·exact .inl rfl
    ·split
     ·exact .inl rfl
     ·split <;> exact .inl rfl
 ·exact .inr rfl
theorem zPa {n a : NT} {s t : Sl} {o : OpP} (h : jL n s o = ((a, t), 0)) (hm : zTc n o) (hs : fewS s = true) (ho : zT3 o = true) : fewS t = true := by
 have := (zD0 hm h).2.2.2.1
 rw [this]
 split
 ·simp only [zT3, Bool.and_eq_true] at ho
  exact ho.1.1.2
 ·exact hs
theorem zWn {n a : NT} {s t : Sl} {o : OpP} (h : jL n s o = ((a, t), 0)) (hm : zTc n o) (hr : zRb n s o) (hf : zT3 o = true) : zRb a t (zGl o).1 := by
 refine ⟨zPa h hm hr.sel hf, zT5 hr.tiny, fun _ => by have := (zD0 hm h).2.2.2.2; omega, fun hc => ?_⟩
 rcases kMf o with e | e
 ·rw [e] at hc ⊢; exact hr.node hc
 ·rw [e]; simp [zeroT, sizeT, sizeK]
set_option maxRecDepth 100000 in
theorem kHi {w : World} {c : NC} {s : SC} {o : OC} {n : NT} {sl : Sl} {a : OpP} (hn : kS w c n) (hs : zB1 w s sl) (ho : OkA w o a) (hf : zB8 n sl a = false) : Calls Tryz.prog 5 #[.agg c.row, .agg s.row, .agg o.row] w (jW w) := by
 have HN := hd hn
 have HSL := hd hs
 have HO := hd ho
 have HF := hd hf
 clear hn hs ho hf
 obtain ⟨W0, hW, hst⟩ := kN w c s o
 have HW := hd hW
 have HS := hd hst
 clear hW hst
 go_enter Tryz.func5, Tryz.ntmps5
 go_upto_region 1 with fail
 rw [HW.out]
 go_wp2_with (first
  | ((with_reducible refine zC (ty := 26) (x := .tmp 3) ?_); refine zB zD HS.out.v3 rfl _ rfl rfl rfl ?_)
  | ((with_reducible refine zC (ty := 33) (x := .tmp 4) ?_); refine zB zP HS.out.v4 rfl _ rfl rfl rfl ?_)
  | ((with_reducible refine zC (ty := 35) (x := .tmp 5) ?_); refine zG HS.out.v5 _ rfl rfl rfl ?_)
  | (go_at_call 10; refine Calls.mono (jG _) ?_; rintro e w1 ⟨rfl, b9⟩; have HS := hd (HS.out.call b9); clear b9)
  | (go_at_call 11; refine Calls.mono (zAq (HN.out.later HS.out.below) (HSL.out.later HS.out.below) (HO.out.later HS.out.below) HF.out) ?_; rintro e w2 ⟨rfl, b9⟩; have HS := hd (HS.out.call b9); clear b9))
 go_ret
 exact ⟨rfl, HS.out.below⟩
set_option maxRecDepth 100000 in
theorem kHj {w : World} {c : NC} {s : SC} {o : OC} {n : NT} {sl : Sl} {a : OpP} {er : Int} (hn : kS w c n) (hs : zB1 w s sl) (ho : OkA w o a) (hf : zB8 n sl a = true) (hap : jL n sl a = ((zeroT, zeroS), er)) (hne : (er != 0) = true) : Calls Tryz.prog 5 #[.agg c.row, .agg s.row, .agg o.row] w (jW w) := by
 have HAP := hd hap
 clear hap
 have HN := hd hn
 have HSL := hd hs
 have HO := hd ho
 have HF := hd hf
 have HRD := hd (jE hf hn ho).1
 clear hn hs ho hf
 obtain ⟨W0, hW, hst⟩ := kN w c s o
 have HW := hd hW
 have HS := hd hst
 clear hW hst
 go_enter Tryz.func5, Tryz.ntmps5
 go_upto_region 1 with fail
 rw [HW.out]
 go_upto_region 6 with (first
  | ((with_reducible refine zC (ty := 26) (x := .tmp 3) ?_); refine zB zD HS.out.v3 rfl _ rfl rfl rfl ?_)
  | ((with_reducible refine zC (ty := 33) (x := .tmp 4) ?_); refine zB zP HS.out.v4 rfl _ rfl rfl rfl ?_)
  | ((with_reducible refine zC (ty := 35) (x := .tmp 5) ?_); refine zG HS.out.v5 _ rfl rfl rfl ?_)
  | (go_at_call 10; refine Calls.mono (jG _) ?_; rintro e w1 ⟨rfl, b9⟩; have HS := hd (HS.out.call b9); clear b9)
  | (go_at_call 11; refine Calls.mono (zAq (HN.out.later HS.out.below) (HSL.out.later HS.out.below) (HO.out.later HS.out.below) HF.out) ?_; rintro e w2 ⟨rfl, b9⟩; have HS := hd (HS.out.call b9); clear b9)
  | (go_at_call 13; refine Calls.mono (zA4 (HN.out.later HS.out.below) (HSL.out.later HS.out.below) (HO.out.later HS.out.below) HRD.out HAP.out) ?_; rintro e w3 ⟨ca, ct, rfl, hna, hsa, b9⟩; have HNA := hd hna; have HSA := hd hsa; have HS := hd (HS.out.call b9); clear b9 hna hsa; dsimp only)
  | ((with_reducible refine zF (ty := 26) (x := .tmp 7) ?_); refine zA zD (r := ca.row) (zDj w3) rfl rfl ca.one _ _ rfl rfl rfl rfl rfl ?_; intro W7 hv7 ho7; have HV7 := hd hv7; have HT := hd (zDk ho7); clear hv7 ho7)
  | ((with_reducible refine zF (ty := 33) (x := .tmp 8) ?_); refine zA zP (r := ct.row) HT.out.2 rfl rfl ct.one _ _ rfl rfl rfl rfl rfl ?_; intro W8 hv8 ho8; have HV8 := hd hv8; have HB8 := hd (zDl HT.out.1 ho8); have HV7 := hd (HV7.out.off ho8 (by omega)); clear hv8 ho8))
 have HS5 := hd (show St5 w c s o w3.heap.size (w3.heap.size + 1) ca ct W8 from ⟨HS.out.call HB8.out, HV7.out, HV8.out⟩)
 have HNA2 := hd (HNA.out.later HB8.out)
 have HSA2 := hd (HSA.out.later HB8.out)
 clear HS HNA HSA HV7 HV8 HT HB8
 obtain ⟨g7, hg7⟩ : ∃ g, w3.heap.size = g := ⟨_, rfl⟩
 rw [hg7] at HS5
 try rw [hg7]
 clear hg7
 have HZN := hd (fun W9 : World => (show kS W9 (NC.mk false none 0 0 none 0 0 none 0 0) zeroT from ⟨1, zEh _ _⟩))
 have HSM := hd (zD8 zeroT)
 go_wp2_with (first
  | ((with_reducible refine zC (ty := 26) (x := .tmp 7) ?_); refine zB zD HS5.out.v7 rfl _ rfl rfl rfl ?_)
  | (go_at_call 15; refine Calls.mono (zHo (c' := (NC.mk false none 0 0 none 0 0 none 0 0)) HNA2.out (HZN.out _) HSM.out) ?_; rintro e w9 ⟨rfl, b9⟩; have HS5 := hd (HS5.out.call b9); clear b9))
 go_ret
 exact ⟨rfl, HS5.out.st.below⟩
set_option maxRecDepth 100000 in
theorem kDg {w : World} {c : NC} {s : SC} {o : OC} {n x : NT} {sl tl : Sl} {a b : OpP} (hn : kS w c n) (hs : zB1 w s sl) (ho : OkA w o a) (hf : zB8 n sl a = true) (hap : jL n sl a = ((x, tl), 0)) (hin : zGl a = (b, 0)) (hap2 : jL x tl b = ((n, sl), 0)) (hrd : zRb x tl b) : Calls Tryz.prog 5 #[.agg c.row, .agg s.row, .agg o.row] w (jW w) := by
 have HAP := hd hap
 have HIN := hd hin
 have HAP2 := hd hap2
 have HRD2 := hd hrd
 clear hap hin hap2 hrd
 have HN := hd hn
 have HSL := hd hs
 have HO := hd ho
 have HF := hd hf
 have HRD := hd (jE hf hn ho).1
 clear hn hs ho hf
 obtain ⟨W0, hW, hst⟩ := kN w c s o
 have HW := hd hW
 have HS := hd hst
 clear hW hst
 go_enter Tryz.func5, Tryz.ntmps5
 go_upto_region 1 with fail
 rw [HW.out]
 go_upto_region 6 with (first
  | ((with_reducible refine zC (ty := 26) (x := .tmp 3) ?_); refine zB zD HS.out.v3 rfl _ rfl rfl rfl ?_)
  | ((with_reducible refine zC (ty := 33) (x := .tmp 4) ?_); refine zB zP HS.out.v4 rfl _ rfl rfl rfl ?_)
  | ((with_reducible refine zC (ty := 35) (x := .tmp 5) ?_); refine zG HS.out.v5 _ rfl rfl rfl ?_)
  | (go_at_call 10; refine Calls.mono (jG _) ?_; rintro e w1 ⟨rfl, b9⟩; have HS := hd (HS.out.call b9); clear b9)
  | (go_at_call 11; refine Calls.mono (zAq (HN.out.later HS.out.below) (HSL.out.later HS.out.below) (HO.out.later HS.out.below) HF.out) ?_; rintro e w2 ⟨rfl, b9⟩; have HS := hd (HS.out.call b9); clear b9)
  | (go_at_call 13; refine Calls.mono (zA4 (HN.out.later HS.out.below) (HSL.out.later HS.out.below) (HO.out.later HS.out.below) HRD.out HAP.out) ?_; rintro e w3 ⟨ca, ct, rfl, hna, hsa, b9⟩; have HNA := hd hna; have HSA := hd hsa; have HS := hd (HS.out.call b9); clear b9 hna hsa; dsimp only)
  | ((with_reducible refine zF (ty := 26) (x := .tmp 7) ?_); refine zA zD (r := ca.row) (zDj w3) rfl rfl ca.one _ _ rfl rfl rfl rfl rfl ?_; intro W7 hv7 ho7; have HV7 := hd hv7; have HT := hd (zDk ho7); clear hv7 ho7)
  | ((with_reducible refine zF (ty := 33) (x := .tmp 8) ?_); refine zA zP (r := ct.row) HT.out.2 rfl rfl ct.one _ _ rfl rfl rfl rfl rfl ?_; intro W8 hv8 ho8; have HV8 := hd hv8; have HB8 := hd (zDl HT.out.1 ho8); have HV7 := hd (HV7.out.off ho8 (by omega)); clear hv8 ho8))
 have HS5 := hd (show St5 w c s o w3.heap.size (w3.heap.size + 1) ca ct W8 from ⟨HS.out.call HB8.out, HV7.out, HV8.out⟩)
 have HNA2 := hd (HNA.out.later HB8.out)
 have HSA2 := hd (HSA.out.later HB8.out)
 clear HS HNA HSA HV7 HV8 HT HB8
 obtain ⟨g7, hg7⟩ : ∃ g, w3.heap.size = g := ⟨_, rfl⟩
 rw [hg7] at HS5
 try rw [hg7]
 clear hg7
 go_upto_region 9 with (first
  | ((with_reducible refine zC (ty := 35) (x := .tmp 5) ?_); refine zG HS5.out.st.v5 _ rfl rfl rfl ?_)
  | (go_at_call 21; refine (zNq _ o a (HO.out.later HS5.out.st.below) HRD.out.tiny).mono ?_; rintro e w5 ⟨cb, rfl, hsb, b9⟩; have HOB := hd hsb.now; rw [HIN.out] at HOB; have HS5 := hd (HS5.out.call b9); have HNA2 := hd (HNA2.out.later b9); have HSA2 := hd (HSA2.out.later b9); clear hsb b9; rw [HIN.out]; dsimp only)
  | ((with_reducible refine zF (ty := 35) (x := .tmp 10) ?_); refine zAe (c := cb) _ _ rfl rfl rfl rfl rfl rfl rfl ?_; have hb9 := zQ w5 (.cells (OC.row cb) 35); have HV10 := hd (jR.new w5 cb); have HOB := hd (HOB.out.later hb9); have HS5 := hd (HS5.out.call hb9); have HNA2 := hd (HNA2.out.later hb9); have HSA2 := hd (HSA2.out.later hb9); clear hb9))
 obtain ⟨g10, hg10⟩ : ∃ g, w5.heap.size = g := ⟨_, rfl⟩
 rw [hg10] at HV10
 try rw [hg10]
 obtain ⟨W5, hW5⟩ : ∃ W, w5.alloc (.cells cb.row 35) = W := ⟨_, rfl⟩
 rw [hW5] at HV10 HOB HS5 HNA2 HSA2
 rw [hW5]
 clear hW5 hg10
 go_upto_region 10 with (first
  | ((with_reducible refine zC (ty := 26) (x := .tmp 7) ?_); refine zB zD HS5.out.v7 rfl _ rfl rfl rfl ?_)
  | ((with_reducible refine zC (ty := 33) (x := .tmp 8) ?_); refine zB zP HS5.out.v8 rfl _ rfl rfl rfl ?_)
  | ((with_reducible refine zC (ty := 35) (x := .tmp 10) ?_); refine zG HV10.out _ rfl rfl rfl ?_)
  | (go_at_call 13; refine Calls.mono (zA4 HNA2.out HSA2.out HOB.out HRD2.out HAP2.out) ?_; rintro e w6 ⟨cc, cu, rfl, hnc, hsc, b9⟩; have HNC := hd hnc; have HSC := hd hsc; have HS5 := hd (HS5.out.call b9); clear b9 hnc hsc; dsimp only)
  | ((with_reducible refine zF (ty := 26) (x := .tmp 12) ?_); refine zA zD (r := cc.row) (zDj w6) rfl rfl cc.one _ _ rfl rfl rfl rfl rfl ?_; intro W12 hv12 ho12; have HV12 := hd hv12; have HT := hd (zDk ho12); clear hv12 ho12)
  | ((with_reducible refine zF (ty := 33) (x := .tmp 13) ?_); refine zA zP (r := cu.row) HT.out.2 rfl rfl cu.one _ _ rfl rfl rfl rfl rfl ?_; intro W13 hv13 ho13; have HV13 := hd hv13; have HB13 := hd (zDl HT.out.1 ho13); have HV12 := hd (HV12.out.off ho13 (by omega)); clear hv13 ho13))
 have HS := hd (HS5.out.st.call HB13.out)
 have HNC2 := hd (HNC.out.later HB13.out)
 have HSC2 := hd (HSC.out.later HB13.out)
 clear HS5 HNC HSC HT HB13 HNA2 HSA2 HV10 HOB
 obtain ⟨g12, hg12⟩ : ∃ g, w6.heap.size = g := ⟨_, rfl⟩
 rw [hg12] at HV12 HV13
 try rw [hg12]
 clear hg12
 have HSM := hd (zD8 n)
 have HSS := hd ((zC4 sl sl).2 rfl)
 go_wp2_with (first
  | ((with_reducible refine kH (ty := 26) (x := .tmp 12) ?_); refine zK zD HV12.out rfl _ rfl (by rfl) rfl ?_)
  | ((with_reducible refine kH (ty := 26) (x := .tmp 3) ?_); refine zK zD HS.out.v3 rfl _ rfl (by rfl) rfl ?_)
  | (go_at_call 22; refine Calls.mono (zLi HNC2.out (HN.out.later HS.out.below) HSM.out) ?_; rintro e w9 ⟨rfl, b9⟩; have HS := hd (HS.out.call b9); have HV13 := hd (HV13.out.keep b9); have HSC2 := hd (HSC2.out.later b9); clear b9)
  | ((with_reducible refine kH (ty := 33) (x := .tmp 13) ?_); refine zK zP HV13.out rfl _ rfl (by rfl) rfl ?_)
  | ((with_reducible refine kH (ty := 33) (x := .tmp 4) ?_); refine zK zP HS.out.v4 rfl _ rfl (by rfl) rfl ?_)
  | (go_at_call 20; refine Calls.mono (zH9 HSC2.out (HSL.out.later HS.out.below) HRD.out.sel HRD.out.sel HSS.out) ?_; rintro e w10 ⟨rfl, b9⟩; have HS := hd (HS.out.call b9); clear b9))
 go_ret
 exact ⟨rfl, HS.out.below⟩
theorem zZt {w : World} {c : NC} {s : SC} {o : OC} {n : NT} {sl : Sl} {a : OpP} (hn : kS w c n) (hs : zB1 w s sl) (ho : OkA w o a) : Calls Tryz.prog 5 #[.agg c.row, .agg s.row, .agg o.row] w (jW w) := by
 cases hf : zB8 n sl a
 ·exact kHi hn hs ho hf
 obtain ⟨hr, e1, e2⟩ := jE hf hn ho
 obtain ⟨⟨⟨x, tl⟩, er⟩, hap⟩ : ∃ r, jL n sl a = r := ⟨_, rfl⟩
 by_cases h0 : er = 0
 ·subst h0
  have hm := zPs hap hr e1 e2
  obtain ⟨d1, d2⟩ := zWm hm ho.hiq hap
  have hfo : zT3 a = true := by unfold zB8 at hf; rw [Bool.and_eq_true] at hf; exact hf.2
  exact kDg hn hs ho hf hap (Prod.ext rfl d1) d2 (zWn hap hm hr hfo)
 ·have hz := zJk (n := n) (s := sl) (o := a) (by rw [hap]; exact h0)
  rw [hap] at hz
  dsimp only at hz
  rw [hz] at hap
  exact kHj hn hs ho hf hap (by simpa using h0)
end Go.Proofs.YtmkciabefepelaaGreat
