/- Trees by paths: the node at a path, another one in its place, one put in, one cut out; -/
import Derived.Test.YtmkciabefepelaaGreatJTTree
import Derived.Test.YtmkciabefepelaaGreatJPSame
import Derived.Test.YtmkciabefepelaaGreatJIAlike
import Derived.Test.YtmkciabefepelaaGreatJIPath
import Derived.Test.YtmkciabefepelaaGreatProg
import Derived.WalkKit
import Derived.WalkLawsBesides
import Derived.WalkSpells
import Derived.LoopTactic
import Derived.Outline
import Derived.Deep.Draws
import Derived.Deep.QuietTactic
import Derived.BigQuiet
import Derived.Below
import Derived.Laws.OwnMore
import Derived.Laws.MakeOwn
import Derived.Maps.AppendAt
import Derived.Deep.AppendLies
import Derived.RegionTactic
import Derived.OwnWalk
import Derived.WideShapes
import Derived.IntWalk
import Derived.Laws.Strings
import Derived.Test.YtmkciabefepelaaGreatJOForm
import Derived.Test.YtmkciabefepelaaGreatJBFew
import Derived.Test.YtmkciabefepelaaGreatJQPlain
import Derived.Test.YtmkciabefepelaaGreatBInv
import Derived.Test.YtmkciabefepelaaGreatBFresh
import Derived.Test.YtmkciabefepelaaGreatJCAny
import Derived.Test.YtmkciabefepelaaGreatJXMove5
import Derived.Test.YtmkciabefepelaaGreatJKTold
import Derived.Test.YtmkciabefepelaaGreatJTCut
import Derived.Deep.RegionHeld3
import Derived.Laws.AppendOwnNone
import Derived.Test.YtmkciabefepelaaGreatJTPut
import Derived.Test.YtmkciabefepelaaGreatTChange
import Derived.Test.YtmkciabefepelaaGreatJTGet
import Derived.Test.YtmkciabefepelaaGreatNCopy
import Derived.Test.YtmkciabefepelaaGreatJNRSame
import Derived.Test.YtmkciabefepelaaGreatJNEach
import Derived.Laws.EntriesVeiled
import Derived.Shelf.Abstract
import Derived.Laws.IdiomStrings
import Derived.Deep.DeepCutAuto
import Derived.Deep.CutBlock
import Derived.Deep.RegionLaw
import Derived.StillTailTactics
import Derived.ArgAppend
import Derived.Lib.SliceRun
import Derived.Test.YtmkciabefepelaaGreatXMove
import Derived.Test.YtmkciabefepelaaGreatJXCalls
import Derived.Lib.AppendZeros
import Derived.Deep.Cut
import Derived.BigRegion
import Derived.Deep.MidRow
import Derived.Laws.Tables
import Derived.Laws.ResultCell
import Derived.Maps.OwnOps
import Derived.OrdersHeld
import Derived.Test.YtmkciabefepelaaGreatJBWith
import Derived.Test.YtmkciabefepelaaGreatBEmpty
import Derived.Test.YtmkciabefepelaaGreatJUDo
import Derived.Test.YtmkciabefepelaaGreatJUApp
import Derived.Test.YtmkciabefepelaaGreatJUAhead
import Derived.Test.YtmkciabefepelaaGreatJUBase
import Derived.Test.YtmkciabefepelaaGreatUStay
import Derived.Test.YtmkciabefepelaaGreatJYMove2
import Derived.Great.BuildSlice
import Derived.Test.YtmkciabefepelaaGreatJUChg
import Derived.Test.YtmkciabefepelaaGreatUMean
import Derived.Test.YtmkciabefepelaaGreatJGCat
import Derived.Test.YtmkciabefepelaaGreatJQRow
import Derived.Maps.StringElems
import Derived.Shelf.GgSortFunc.InsertionK
import Derived.Shelf.SlLaysF0
import Derived.Lib.Bytealg
import Derived.Shelf.SlSortCmp.WholeK
import Derived.Sort.OwnSorted
import Derived.Laws.BitsLemmas
import Derived.Test.YtmkciabefepelaaGreatJUTxt
import Derived.Test.YtmkciabefepelaaGreatJUSplL
import Derived.Test.YtmkciabefepelaaGreatJUMerP
import Derived.Test.YtmkciabefepelaaGreatJNTopO
import Derived.Test.YtmkciabefepelaaGreatJUMerL
set_option maxRecDepth 4000
set_option maxHeartbeats 8000000
namespace Go.Proofs.YtmkciabefepelaaGreat
open Go.RowKit
theorem zL0 {ks : List NT} {i : Nat} {m : NT} (h : i <= ks.length) : (spl ks i 0 [m])[i]? = some m := by
 unfold spl
 have e : (ks.take i).length = i := by rw [List.length_take]; omega
 rw [Nat.add_zero, List.append_assoc, List.getElem?_append_right (by omega), e, Nat.sub_self]
 rfl
theorem zOu {n a m : NT} {p : List Int} (h : zGo n p m = (a, 0)) : zBw a p = (n, 0) /\ zE3 a p = m := by
 unfold zGo at h
 split at h
 ·cases h
 ·rename_i hp
  unfold zBw zE3
  rw [if_neg hp, if_neg hp]
  cases hg : kB n (upP p) with
  | none => rw [zFq (zBa _ _) hg] at h; cases h
  | some x =>
   rcases Classical.em ((zGn (lastL p) m x).2 = 0) with h0 | h0
   ·rw [zCe (zBa _ _) hg h0] at h
    injection h with h1 _
    have hx : (zGn (lastL p) m x).1 = jS x (lastL p).toNat 0 [m] /\ 0 <= lastL p /\ lastL p <= x.ks.length := by
     unfold zGn at h0 ⊢
     split at h0
     ·cases h0
     ·split at h0
      ·cases h0
      ·rename_i h2 h3; rw [if_neg h2, if_neg h3]; exact ⟨rfl, by omega, by omega⟩
    obtain ⟨hx1, hx2, hx3⟩ := hx
    rw [hx1] at h1
    have hg2 : kB a (upP p) = some (jS x (lastL p).toNat 0 [m]) := by rw [<- h1]; exact jX n (upP p) _ x hg
    have hk : zBh (jS x (lastL p).toNat 0 [m]) (lastL p) = some m := by
     unfold zBh; rw [if_pos hx2]; exact zL0 (by omega)
    have hc : zJy (lastL p) (jS x (lastL p).toNat 0 [m]) = (x, 0) := by
     unfold zJy; rw [if_pos (zCy hk)]
     congr 1
     show NT.mk _ _ _ (spl (spl x.ks (lastL p).toNat 0 [m]) (lastL p).toNat 1 []) = x
     rw [zTr (by omega)]; exact NT.eta x
    constructor
    ·rw [zCe (zG2 _) hg2 (by rw [hc]), hc, <- h1, zEo n _ _ _ x hg, zG1 n _ x hg]
    ·have : kB a p = some m := by rw [zHv hp, hg2]; exact hk
     rw [kP this]
   ·rw [zHu (zBa _ _) hg h0] at h
    injection h with _ h2
    exact absurd h2 h0
theorem zHh {ks : List NT} {i : Nat} {m : NT} (_h : i <= ks.length) : sizeK (spl ks i 0 [m]) = sizeK ks + sizeT m := by
 unfold spl
 rw [kZ, kZ, Nat.add_zero]
 have : sizeK ks = sizeK (ks.take i) + sizeK (ks.drop i) := by rw [<- kZ, List.take_append_drop]
 simp only [sizeK]
 omega
theorem zFl {n a m : NT} {p : List Int} (h : zGo n p m = (a, 0)) : sizeT a = sizeT n + sizeT m /\ ∃ x, p.length ≠ 0 /\ kB n (upP p) = some x /\ kB a (upP p) = some (jS x (lastL p).toNat 0 [m]) /\ (jS x (lastL p).toNat 0 [m]).ks.length = x.ks.length + 1 := by
 unfold zGo at h
 split at h
 ·cases h
 ·rename_i hp
  cases hg : kB n (upP p) with
  | none => rw [zFq (zBa _ _) hg] at h; cases h
  | some x =>
   rcases Classical.em ((zGn (lastL p) m x).2 = 0) with h0 | h0
   ·rw [zCe (zBa _ _) hg h0] at h
    injection h with h1 _
    have hx : (zGn (lastL p) m x).1 = jS x (lastL p).toNat 0 [m] /\ 0 <= lastL p /\ lastL p <= x.ks.length := by
     unfold zGn at h0 ⊢
     split at h0
     ·cases h0
     ·split at h0
      ·cases h0
      ·rename_i h2 h3; rw [if_neg h2, if_neg h3]; exact ⟨rfl, by omega, by omega⟩
    obtain ⟨hx1, hx2, hx3⟩ := hx
    rw [hx1] at h1
    have h5 := zBo n (upP p) (jS x (lastL p).toNat 0 [m]) x hg
    rw [h1] at h5
    have h6 : sizeT (jS x (lastL p).toNat 0 [m]) = sizeT x + sizeT m := by
     rw [jC, jC x]
     show 1 + x.tx.length + sizeK (spl x.ks _ 0 [m]) = _
     rw [zHh (by omega)]; omega
    refine ⟨by omega, x, hp, rfl, by rw [<- h1]; exact jX n _ _ x hg, ?_⟩
    have := zM4 (ks := x.ks) (i := (lastL p).toNat) (many := 0) (o := [m]) (by omega)
    simp at this
    exact this
   ·rw [zHu (zBa _ _) hg h0] at h
    injection h with _ h2
    exact absurd h2 h0
theorem zJd (b k : NT) : sizeT (zAo b k) + 1 = sizeT b + sizeT k := by
 rw [jC (zAo b k), jC b, jC k]
 show 1 + (b.tx ++ k.tx).length + sizeK (b.ks ++ k.ks) + 1 = _
 rw [kZ, List.length_append]; omega
theorem zF6 (k : NT) (ps : List Pr) : sizeT (zEs k ps) = sizeT k := by rw [jC k]; simp only [zEs, sizeT]
theorem zDe (k : NT) (tx : List Int) : sizeT (zCz k tx) + k.tx.length = sizeT k + tx.length := by rw [jC k]; simp only [zCz, sizeT]; omega
theorem jZ {n a : NT} {o : OpP} {f : List Int -> List Int × Int} (h : zP1 n o f = (a, 0)) : ∃ k, kB n o.q = some k /\ k.lf = true /\ (f k.tx).2 = 0 /\ a = putT n o.q (zCz k (f k.tx).1) := by
 unfold zP1 at h
 cases hg : kB n o.q with
 | none => rw [zB2 hg, if_pos (by decide)] at h; cases h
 | some k =>
  rw [kP hg, if_neg (by simp)] at h
  by_cases hl : k.lf = false
  ·rw [if_pos hl] at h; cases h
  rw [if_neg hl] at h
  unfold kI0 at h
  by_cases h0 : (f k.tx).2 = 0
  case neg => rw [if_pos h0] at h; exact absurd (zO h).2 h0
  rw [if_neg (by simp [h0])] at h
  exact ⟨k, rfl, by simpa using hl, h0, (zO h).1.symm⟩
theorem zCl {n a : NT} {o : OpP} (h : zVk n o = (a, 0)) : zBw n o.q = (a, 0) /\ zE3 n o.q = o.n := by
 unfold zVk at h
 by_cases h0 : (zBw n o.q).2 = 0
 case neg => rw [if_pos h0] at h; exact absurd (zO h).2 h0
 rw [if_neg (by simp [h0])] at h
 by_cases h1 : eqT (zE3 n o.q) o.n = true
 case neg => rw [if_neg h1] at h; cases h
 rw [if_pos h1] at h
 exact ⟨Prod.ext (zO h).1 h0, (zIw _ _).1 h1⟩
theorem zBz {n a : NT} {o : OpP} (h : zVl n o = (a, 0)) : (zBw n o.q).2 = 0 /\ zGo (zBw n o.q).1 o.t (zE3 n o.q) = (a, 0) := by
 unfold zVl at h
 by_cases h0 : (zBw n o.q).2 = 0
 case neg => rw [if_pos h0] at h; exact absurd (zO h).2 h0
 rw [if_neg (by simp [h0])] at h
 exact ⟨h0, h⟩
def byO (o : OpP) : Int := if o.k = 1 then sizeT o.n else if o.k = 2 then -(sizeT o.n : Int) else if o.k = 3 then -1 else if o.k = 4 then 1 else if o.k = 7 then o.x.length else if o.k = 8 then -(o.x.length : Int) else 0
theorem kHb {o : OpP} (e : o.k = 1) : byO o = sizeT o.n := by unfold byO; rw [if_pos e]
theorem kHc {o : OpP} (e : o.k = 2) : byO o = -(sizeT o.n : Int) := by unfold byO; rw [if_neg (by omega), if_pos e]
theorem kHd {o : OpP} (e : o.k = 3) : byO o = -1 := by unfold byO; rw [if_neg (by omega), if_neg (by omega), if_pos e]
theorem kHe {o : OpP} (e : o.k = 4) : byO o = 1 := by unfold byO; rw [if_neg (by omega), if_neg (by omega), if_neg (by omega), if_pos e]
theorem kHf {o : OpP} (e : o.k = 7) : byO o = o.x.length := by unfold byO; rw [if_neg (by omega), if_neg (by omega), if_neg (by omega), if_neg (by omega), if_pos e]
theorem kHg {o : OpP} (e : o.k = 8) : byO o = -(o.x.length : Int) := by unfold byO; rw [if_neg (by omega), if_neg (by omega), if_neg (by omega), if_neg (by omega), if_neg (by omega), if_pos e]
theorem zXp {o : OpP} (e : o.k = 5 ∨ o.k = 6 ∨ o.k = 9) : byO o = 0 := by unfold byO; rw [if_neg (by omega), if_neg (by omega), if_neg (by omega), if_neg (by omega), if_neg (by omega), if_neg (by omega)]
theorem zMm {n a : NT} {o : OpP} (hm : ∀ u x, kB n u = some x -> x.ks.length < 9223372036854775807) (h1 : 1 <= o.k) (h8 : o.k <= 8) (h : doO n o = (a, 0)) : (sizeT a : Int) = sizeT n + byO o := by
 rcases zC7 h1 h8 h with ⟨e, h⟩ | ⟨e, h⟩ | ⟨e, h⟩ | ⟨e, h⟩ | ⟨e, h⟩ | ⟨e, h⟩ | ⟨e, h⟩ | ⟨e, h⟩
 ·have := (zFl (zCd h).2).1
  rw [kHb e]; omega
 ·obtain ⟨h2, h3⟩ := zCl h
  have := zFn (n := n) (p := o.q) (by rw [h2])
  rw [h2, h3] at this
  dsimp only at this
  rw [kHc e]; omega
 ·obtain ⟨u, i, x, b, k, hf⟩ := zC5 h
  have h2 := zGu hf.at_ i 2 [zAo b k]
  rw [zDi hf.b_ hf.k_, <- hf.eq] at h2
  have h3 := zJd b k
  simp only [sizeK] at h2
  rw [kHd e]; omega
 ·obtain ⟨u, i, x, k, hf⟩ := zCc hm h
  have h2 := zGu hf.at_ i 1 [jN k o.z.toNat, zA2 k o.z.toNat o.w]
  rw [zCk hf.kid, <- hf.eq] at h2
  have h3 := zGv k o.z.toNat o.w
  simp only [sizeK] at h2
  rw [kHe e]; omega
 ·obtain ⟨h2, h3⟩ := zBz h
  have h4 := zFn h2
  have h5 := (zFl h3).1
  rw [zXp (by omega)]; omega
 ·obtain ⟨k, hq, hg, hc, rfl⟩ := zC6 h
  have h2 := zBo n o.q (zEs k (zA7 k.ps o.o o.w)) k hg
  rw [zF6] at h2
  rw [zXp (by omega)]; omega
 ·obtain ⟨k, hg, hl, h0, rfl⟩ := jZ h
  have h2 := zBo n o.q (zCz k (zFx k.tx o.z o.x).1) k hg
  have h3 := zDe k (zFx k.tx o.z o.x).1
  have h4 := zKi (r := k.tx) (s := o.x) (p := o.z) (l := (zFx k.tx o.z o.x).1) (Prod.ext rfl h0)
  rw [kHf e]; omega
 ·obtain ⟨k, hg, hl, h0, rfl⟩ := jZ h
  have h2 := zBo n o.q (zCz k (zFe k.tx o.z o.x).1) k hg
  have h3 := zDe k (zFe k.tx o.z o.x).1
  have h4 := zKj (r := k.tx) (s := o.x) (p := o.z) (l := (zFe k.tx o.z o.x).1) (Prod.ext rfl h0)
  rw [kHg e]; omega
section
variable {w : World}
theorem zAa {c : NC} {n : NT} {E : Int} (h : kS w c n) (hE : wrap64 (sizeT n) = E) : Calls Tryz.prog 31 #[.agg c.row] w (jA (.int .i64 E) w) := by
 obtain ⟨d, h⟩ := h
 subst hE
 exact zUm d w _ n h
end
set_option maxRecDepth 100000 in
theorem kD2 {w : World} {c : NC} {s : SC} {o : OC} {n : NT} {sl : Sl} {a : OpP} (hn : kS w c n) (hs : zB1 w s sl) (ho : OkA w o a) (hf : zB8 n sl a = false) : Calls Tryz.prog 8 #[.agg c.row, .agg s.row, .agg o.row] w (jW w) := by
 have HN := hd hn
 have HSL := hd hs
 have HO := hd ho
 have HF := hd hf
 clear hn hs ho hf
 obtain ⟨W0, hW, hst⟩ := kN w c s o
 have HW := hd hW
 have HS := hd hst
 clear hW hst
 go_enter Tryz.func8, Tryz.ntmps8
 go_upto_region 1 with fail
 rw [HW.out]
 go_wp2_with (first
  | ((with_reducible refine zC (ty := 26) (x := .tmp 3) ?_); refine zB zD HS.out.v3 rfl _ rfl rfl rfl ?_)
  | ((with_reducible refine zC (ty := 33) (x := .tmp 4) ?_); refine zB zP HS.out.v4 rfl _ rfl rfl rfl ?_)
  | ((with_reducible refine zC (ty := 35) (x := .tmp 5) ?_); refine zG HS.out.v5 _ rfl rfl rfl ?_)
  | (go_at_call 10; refine Calls.mono (jG _) ?_; rintro e w1 ⟨rfl, b9⟩; have HS := hd (HS.out.call b9); clear b9)
  | (go_at_call 11; refine Calls.mono (zAq (HN.out.later HS.out.below) (HSL.out.later HS.out.below) (HO.out.later HS.out.below) HF.out) ?_; rintro e w2 ⟨rfl, b9⟩; have HS := hd (HS.out.call b9); clear b9))
 go_ret
 exact ⟨rfl, HS.out.below⟩
set_option maxRecDepth 100000 in
theorem kD3 {w : World} {c : NC} {s : SC} {o : OC} {n : NT} {sl : Sl} {a : OpP} {er : Int} (hn : kS w c n) (hs : zB1 w s sl) (ho : OkA w o a) (hf : zB8 n sl a = true) (hap : jL n sl a = ((zeroT, zeroS), er)) (hne : (er != 0) = true) : Calls Tryz.prog 8 #[.agg c.row, .agg s.row, .agg o.row] w (jW w) := by
 have HAP := hd hap
 clear hap
 have HN := hd hn
 have HSL := hd hs
 have HO := hd ho
 have HF := hd hf
 have HRD := hd (jE hf hn ho).1
 clear hn hs ho hf
 obtain ⟨W0, hW, hst⟩ := kN w c s o
 have HW := hd hW
 have HS := hd hst
 clear hW hst
 go_enter Tryz.func8, Tryz.ntmps8
 go_upto_region 1 with fail
 rw [HW.out]
 go_upto_region 6 with (first
  | ((with_reducible refine zC (ty := 26) (x := .tmp 3) ?_); refine zB zD HS.out.v3 rfl _ rfl rfl rfl ?_)
  | ((with_reducible refine zC (ty := 33) (x := .tmp 4) ?_); refine zB zP HS.out.v4 rfl _ rfl rfl rfl ?_)
  | ((with_reducible refine zC (ty := 35) (x := .tmp 5) ?_); refine zG HS.out.v5 _ rfl rfl rfl ?_)
  | (go_at_call 10; refine Calls.mono (jG _) ?_; rintro e w1 ⟨rfl, b9⟩; have HS := hd (HS.out.call b9); clear b9)
  | (go_at_call 11; refine Calls.mono (zAq (HN.out.later HS.out.below) (HSL.out.later HS.out.below) (HO.out.later HS.out.below) HF.out) ?_; rintro e w2 ⟨rfl, b9⟩; have HS := hd (HS.out.call b9); clear b9)
  | (go_at_call 13; refine Calls.mono (zA4 (HN.out.later HS.out.below) (HSL.out.later HS.out.below) (HO.out.later HS.out.below) HRD.out HAP.out) ?_; rintro e w3 ⟨ca, ct, rfl, hna, hsa, b9⟩; have HNA := hd hna; have HSA := hd hsa; have HS := hd (HS.out.call b9); clear b9 hna hsa; dsimp only)
  | ((with_reducible refine zF (ty := 26) (x := .tmp 7) ?_); refine zA zD (r := ca.row) (zDj w3) rfl rfl ca.one _ _ rfl rfl rfl rfl rfl ?_; intro W7 hv7 ho7; have HV7 := hd hv7; have HT := hd (zDk ho7); clear hv7 ho7)
  | ((with_reducible refine zF (ty := 33) (x := .tmp 8) ?_); refine zA zP (r := ct.row) HT.out.2 rfl rfl ct.one _ _ rfl rfl rfl rfl rfl ?_; intro W8 hv8 ho8; have HV8 := hd hv8; have HB8 := hd (zDl HT.out.1 ho8); have HV7 := hd (HV7.out.off ho8 (by omega)); clear hv8 ho8))
 have HS5 := hd (show St5 w c s o w3.heap.size (w3.heap.size + 1) ca ct W8 from ⟨HS.out.call HB8.out, HV7.out, HV8.out⟩)
 have HNA2 := hd (HNA.out.later HB8.out)
 have HSA2 := hd (HSA.out.later HB8.out)
 clear HS HNA HSA HV7 HV8 HT HB8
 obtain ⟨g7, hg7⟩ : ∃ g, w3.heap.size = g := ⟨_, rfl⟩
 rw [hg7] at HS5
 try rw [hg7]
 clear hg7
 have HZN := hd (fun W9 : World => (show kS W9 (NC.mk false none 0 0 none 0 0 none 0 0) zeroT from ⟨1, zEh _ _⟩))
 have HSM := hd (zD8 zeroT)
 go_wp2_with (first
  | ((with_reducible refine zC (ty := 26) (x := .tmp 7) ?_); refine zB zD HS5.out.v7 rfl _ rfl rfl rfl ?_)
  | (go_at_call 15; refine Calls.mono (zHo (c' := (NC.mk false none 0 0 none 0 0 none 0 0)) HNA2.out (HZN.out _) HSM.out) ?_; rintro e w9 ⟨rfl, b9⟩; have HS5 := hd (HS5.out.call b9); clear b9))
 go_ret
 exact ⟨rfl, HS5.out.st.below⟩
theorem zHw {w : World} {o : OC} {a : OpP} (h : OkA w o a) : kS w o.nc a.n := h.hn
theorem zCi {a : Act} {op : Oper} {W : World} {g : Nat} {o : OC} (h : jR W g o) (x : Operand) (ho : op.op = .load 3 x) (hx : a.eval x = .pointer (some ⟨g, 0, none⟩)) : (execOp a.eval op).run Tryz.prog W = .ok (.value (.int .i64 o.k)) W := by
 have hc := h.cell 0 (.int .i64 o.k) rfl
 have hl := zD3 Tryz.underlying3 rfl hc
 unfold execOp
 simp only [ho, hx, Instr.loadAt, Instr.sureAddr, Sem.run_bind, Sem.run_pure, Result.andThen_ok, hl]
set_option maxRecDepth 100000 in
theorem kD4 {w : World} {c : NC} {s : SC} {o : OC} {n x : NT} {sl tl : Sl} {a : OpP} {X N0 M : Int} {E : Bool} (hn : kS w c n) (hs : zB1 w s sl) (ho : OkA w o a) (hf : zB8 n sl a = true) (hap : jL n sl a = ((x, tl), 0)) (hk : o.k = 1) (hx : wrap64 (sizeT x) = X) (hn0 : wrap64 (sizeT n) = N0) (hm : wrap64 (sizeT a.n) = M) (hxx : X = N0 + M) (b0 : 0 <= N0) (b1 : N0 <= 1000) (b2 : 0 <= M) (b3 : M <= 100000) (_b4 : o.nx <= 1000) (b5 : 0 <= X) (hsm : eqT x n = E) : Calls Tryz.prog 8 #[.agg c.row, .agg s.row, .agg o.row] w (jW w) := by
 have HAP := hd hap
 have HSX := hd hx
 have HSN := hd hn0
 have HSO := hd hm
 have HXX := hd hxx
 have HSM := hd hsm
 have k1 : (o.k == 1) = true := by simp [hk]
 have k2 : (o.k == 2) = false := by simp [hk]
 have k3 : (o.k == 3) = false := by simp [hk]
 have k4 : (o.k == 4) = false := by simp [hk]
 have k7 : (o.k == 7) = false := by simp [hk]
 have k8 : (o.k == 8) = false := by simp [hk]
 have k9 : (o.k == 9) = false := by simp [hk]
 have hwr : IntKind.i64.wrap (N0 + M) = N0 + M := IntWalk.i64_in _ (by omega)
 have hw0 : IntKind.i64.wrap N0 = N0 := IntWalk.i64_in _ (by omega)
 have hwg : IntKind.i64.wrap (-M) = -M := IntWalk.i64_in _ (by omega)
 have k19 : (o.k != 9) = true := by simp [hk]
 clear hap hx hn0 hm hxx hsm hk
 have HN := hd hn
 have HSL := hd hs
 have HO := hd ho
 have HF := hd hf
 have HRD := hd (jE hf hn ho).1
 clear hn hs ho hf
 obtain ⟨W0, hW, hst⟩ := kN w c s o
 have HW := hd hW
 have HS := hd hst
 clear hW hst
 go_enter Tryz.func8, Tryz.ntmps8
 go_upto_region 1 with fail
 rw [HW.out]
 go_upto_region 6 with (first
  | ((with_reducible refine zC (ty := 26) (x := .tmp 3) ?_); refine zB zD HS.out.v3 rfl _ rfl rfl rfl ?_)
  | ((with_reducible refine zC (ty := 33) (x := .tmp 4) ?_); refine zB zP HS.out.v4 rfl _ rfl rfl rfl ?_)
  | ((with_reducible refine zC (ty := 35) (x := .tmp 5) ?_); refine zG HS.out.v5 _ rfl rfl rfl ?_)
  | (go_at_call 10; refine Calls.mono (jG _) ?_; rintro e w1 ⟨rfl, b9⟩; have HS := hd (HS.out.call b9); clear b9)
  | (go_at_call 11; refine Calls.mono (zAq (HN.out.later HS.out.below) (HSL.out.later HS.out.below) (HO.out.later HS.out.below) HF.out) ?_; rintro e w2 ⟨rfl, b9⟩; have HS := hd (HS.out.call b9); clear b9)
  | (go_at_call 13; refine Calls.mono (zA4 (HN.out.later HS.out.below) (HSL.out.later HS.out.below) (HO.out.later HS.out.below) HRD.out HAP.out) ?_; rintro e w3 ⟨ca, ct, rfl, hna, hsa, b9⟩; have HNA := hd hna; have HSA := hd hsa; have HS := hd (HS.out.call b9); clear b9 hna hsa; dsimp only)
  | ((with_reducible refine zF (ty := 26) (x := .tmp 7) ?_); refine zA zD (r := ca.row) (zDj w3) rfl rfl ca.one _ _ rfl rfl rfl rfl rfl ?_; intro W7 hv7 ho7; have HV7 := hd hv7; have HT := hd (zDk ho7); clear hv7 ho7)
  | ((with_reducible refine zF (ty := 33) (x := .tmp 8) ?_); refine zA zP (r := ct.row) HT.out.2 rfl rfl ct.one _ _ rfl rfl rfl rfl rfl ?_; intro W8 hv8 ho8; have HV8 := hd hv8; have HB8 := hd (zDl HT.out.1 ho8); have HV7 := hd (HV7.out.off ho8 (by omega)); clear hv8 ho8))
 have HS5 := hd (show St5 w c s o w3.heap.size (w3.heap.size + 1) ca ct W8 from ⟨HS.out.call HB8.out, HV7.out, HV8.out⟩)
 have HNA2 := hd (HNA.out.later HB8.out)
 have HSA2 := hd (HSA.out.later HB8.out)
 clear HS HNA HSA HV7 HV8 HT HB8
 obtain ⟨g7, hg7⟩ : ∃ g, w3.heap.size = g := ⟨_, rfl⟩
 rw [hg7] at HS5
 try rw [hg7]
 clear hg7
 go_upto_region 22 with (first
  | ((with_reducible refine zC (ty := 3) (x := .tmp 31) ?_); refine zE HS5.out.st.v5 (j := 0) (v := .int .i64 o.k) _ rfl rfl rfl rfl Tryz.underlying3 rfl ?_)
  | ((with_reducible refine zC (ty := 26) ?_); refine kR HS5.out.st.v5 (j := 4) (vs := [.bool o.lf, .slice o.P o.np o.pc, .slice o.X o.nt o.tc, .slice o.K o.nk o.kc]) zCp _ rfl rfl rfl (by kernel_rfl) ?_)
  | (go_at_call 31; refine Calls.mono (zAa (c := o.nc) (zHw (HO.out.later HS5.out.st.below)) HSO.out) ?_; rintro e w12 ⟨rfl, b9⟩; have HS5 := hd (HS5.out.call b9); have HNA2 := hd (HNA2.out.later b9); clear b9)
  | ((with_reducible refine zC (ty := 23) ?_); refine zE HS5.out.st.v5 (j := 10) (v := .slice o.S o.nx o.cx) _ rfl rfl rfl rfl Tryz.underlying23 rfl ?_))
 refine jO (S := fun W' => Below w12.heap.size w12 W') (z := fun _ => false) (by kernel_rfl) ?_
 have HSS := hd (show Below w12.heap.size w12 w12.drew from (Below.refl _ _).drew)
 refine zH (i := 0) (n := 17) (.agg ca.row) rfl (by kernel_rfl) (by kernel_rfl) (by kernel_rfl) (by kernel_rfl) (fun _ _ _ h => h) (by kernel_rfl) (fun W9 hW9 => ?_) HSS.out ?_
 ·exact zS zD (HS5.out.call hW9).v7 rfl _ rfl (by kernel_rfl)
 simp only [Act.put, List.setIfInBounds_toArray]
 refine zH (i := 2) (n := 16) (.agg c.row) rfl (by kernel_rfl) (by kernel_rfl) (by kernel_rfl) (by kernel_rfl) (fun _ _ _ h => h) (by kernel_rfl) (fun W9 hW9 => ?_) HSS.out ?_
 ·exact zS zD (HS5.out.call hW9).st.v3 rfl _ rfl (by kernel_rfl)
 simp only [Act.put]
 refine zH (i := 4) (n := 15) (.int .i64 (M)) rfl (by kernel_rfl) (by kernel_rfl) (by kernel_rfl) (by kernel_rfl) (fun _ _ _ h => h) (by kernel_rfl) (fun W9 hW9 => ?_) HSS.out ?_
 ·go_simp
 simp only [Act.put]
 refine kJ (i := 1) (n := 14) (by kernel_rfl) rfl (fun K hK => ?_)
 rw [if_pos (by kernel_rfl)]
 go_simp
 go_at_call 31
 refine Calls.mono (zAa (HNA2.out.later HSS.out) HSX.out) ?_
 rintro e w9 ⟨rfl, b9⟩
 have HSS := hd (zI HSS.out b9)
 clear b9
 refine hK _ _ (fun _ => HSS.out) ?_
 clear hK K
 refine kJ (i := 3) (n := 13) (by kernel_rfl) rfl (fun K hK => ?_)
 rw [if_pos (by kernel_rfl)]
 go_simp
 go_at_call 31
 refine Calls.mono (zAa (HN.out.later ((HS5.out.call HSS.out).st.below)) HSN.out) ?_
 rintro e w9 ⟨rfl, b9⟩
 have HSS := hd (zI HSS.out b9)
 clear b9
 refine hK _ _ (fun _ => HSS.out) ?_
 clear hK K
 refine zH (i := 5) (n := 12) (.int .i64 X) rfl (by kernel_rfl) (by kernel_rfl) (by kernel_rfl) (by kernel_rfl) (fun _ _ _ h => h) (by kernel_rfl) (fun W9 hW9 => ?_) HSS.out ?_
 ·rw [HXX.out]; go_simp
 simp only [Act.put]
 refine zH (i := 6) (n := 11) (.bool true) rfl (by kernel_rfl) (by kernel_rfl) (by kernel_rfl) (by kernel_rfl) (fun _ _ _ h => h) (by kernel_rfl) (fun W9 hW9 => ?_) HSS.out ?_
 ·go_simp
 simp only [Act.put]
 refine zH (i := 7) (n := 10) (.bool true) rfl (by kernel_rfl) (by kernel_rfl) (by kernel_rfl) (by kernel_rfl) (fun _ _ _ h => h) (by kernel_rfl) (fun W9 hW9 => ?_) HSS.out ?_
 ·go_simp
 simp only [Act.put]
 refine zH (i := 8) (n := 9) (.pointer (some ⟨w.heap.size + 1 + 1, 0, none⟩)) rfl (by kernel_rfl) (by kernel_rfl) (by kernel_rfl) (by kernel_rfl) (fun _ _ _ h => h) (by kernel_rfl) (fun W9 hW9 => ?_) HSS.out ?_
 ·go_simp
 simp only [Act.put]
 refine zH (i := 9) (n := 8) (.int .i64 o.k) rfl (by kernel_rfl) (by kernel_rfl) (by kernel_rfl) (by kernel_rfl) (fun _ _ _ h => h) (by kernel_rfl) (fun W9 hW9 => ?_) HSS.out ?_
 ·exact zCi (HS5.out.call hW9).st.v5 _ rfl rfl
 simp only [Act.put]
 refine zH (i := 10) (n := 7) (.bool true) rfl (by kernel_rfl) (by kernel_rfl) (by kernel_rfl) (by kernel_rfl) (fun _ _ _ h => h) (by kernel_rfl) (fun W9 hW9 => ?_) HSS.out ?_
 ·go_simp
 simp only [Act.put]
 refine zH (i := 11) (n := 6) (.bool true) rfl (by kernel_rfl) (by kernel_rfl) (by kernel_rfl) (by kernel_rfl) (fun _ _ _ h => h) (by kernel_rfl) (fun W9 hW9 => ?_) HSS.out ?_
 ·go_simp
 simp only [Act.put]
 refine zBx (i := 12) (n := 5) rfl (by kernel_rfl) (by kernel_rfl) (by kernel_rfl) (by kernel_rfl) (fun _ _ _ h => h) (by kernel_rfl) HSS.out ?_
 simp only [Act.put]
 refine zBx (i := 13) (n := 4) rfl (by kernel_rfl) (by kernel_rfl) (by kernel_rfl) (by kernel_rfl) (fun _ _ _ h => h) (by kernel_rfl) HSS.out ?_
 simp only [Act.put]
 refine zBx (i := 14) (n := 3) rfl (by kernel_rfl) (by kernel_rfl) (by kernel_rfl) (by kernel_rfl) (fun _ _ _ h => h) (by kernel_rfl) HSS.out ?_
 simp only [Act.put]
 refine zH (i := 15) (n := 2) (.bool true) rfl (by kernel_rfl) (by kernel_rfl) (by kernel_rfl) (by kernel_rfl) (fun _ _ _ h => h) (by kernel_rfl) (fun W9 hW9 => ?_) HSS.out ?_
 ·go_simp
 simp only [Act.put]
 refine zH (i := 16) (n := 1) (.bool true) rfl (by kernel_rfl) (by kernel_rfl) (by kernel_rfl) (by kernel_rfl) (fun _ _ _ h => h) (by kernel_rfl) (fun W9 hW9 => ?_) HSS.out ?_
 ·go_simp
 simp only [Act.put]
 refine kJ (i := 17) (n := 0) (by kernel_rfl) rfl (fun K hK => ?_)
 rw [if_pos (by kernel_rfl)]
 go_simp
 refine hK _ _ (fun _ => HSS.out) (zAl (by kernel_rfl) ?_)
 go_wp2_with fail
 go_ret
 exact ⟨rfl, (HS5.out.call HSS.out).st.below⟩
set_option maxRecDepth 100000 in
theorem kD5 {w : World} {c : NC} {s : SC} {o : OC} {n x : NT} {sl tl : Sl} {a : OpP} {X N0 M : Int} {E : Bool} (hn : kS w c n) (hs : zB1 w s sl) (ho : OkA w o a) (hf : zB8 n sl a = true) (hap : jL n sl a = ((x, tl), 0)) (hk : o.k = 2) (hx : wrap64 (sizeT x) = X) (hn0 : wrap64 (sizeT n) = N0) (hm : wrap64 (sizeT a.n) = M) (hxx : X = N0 + -M) (b0 : 0 <= N0) (b1 : N0 <= 1000) (b2 : 0 <= M) (b3 : M <= 100000) (_b4 : o.nx <= 1000) (b5 : 0 <= X) (hsm : eqT x n = E) : Calls Tryz.prog 8 #[.agg c.row, .agg s.row, .agg o.row] w (jW w) := by
 have HAP := hd hap
 have HSX := hd hx
 have HSN := hd hn0
 have HSO := hd hm
 have HXX := hd hxx
 have HSM := hd hsm
 have k1 : (o.k == 1) = false := by simp [hk]
 have k2 : (o.k == 2) = true := by simp [hk]
 have k3 : (o.k == 3) = false := by simp [hk]
 have k4 : (o.k == 4) = false := by simp [hk]
 have k7 : (o.k == 7) = false := by simp [hk]
 have k8 : (o.k == 8) = false := by simp [hk]
 have k9 : (o.k == 9) = false := by simp [hk]
 have hwr : IntKind.i64.wrap (N0 + -M) = N0 + -M := IntWalk.i64_in _ (by omega)
 have hw0 : IntKind.i64.wrap N0 = N0 := IntWalk.i64_in _ (by omega)
 have hwg : IntKind.i64.wrap (-M) = -M := IntWalk.i64_in _ (by omega)
 have k19 : (o.k != 9) = true := by simp [hk]
 clear hap hx hn0 hm hxx hsm hk
 have HN := hd hn
 have HSL := hd hs
 have HO := hd ho
 have HF := hd hf
 have HRD := hd (jE hf hn ho).1
 clear hn hs ho hf
 obtain ⟨W0, hW, hst⟩ := kN w c s o
 have HW := hd hW
 have HS := hd hst
 clear hW hst
 go_enter Tryz.func8, Tryz.ntmps8
 go_upto_region 1 with fail
 rw [HW.out]
 go_upto_region 6 with (first
  | ((with_reducible refine zC (ty := 26) (x := .tmp 3) ?_); refine zB zD HS.out.v3 rfl _ rfl rfl rfl ?_)
  | ((with_reducible refine zC (ty := 33) (x := .tmp 4) ?_); refine zB zP HS.out.v4 rfl _ rfl rfl rfl ?_)
  | ((with_reducible refine zC (ty := 35) (x := .tmp 5) ?_); refine zG HS.out.v5 _ rfl rfl rfl ?_)
  | (go_at_call 10; refine Calls.mono (jG _) ?_; rintro e w1 ⟨rfl, b9⟩; have HS := hd (HS.out.call b9); clear b9)
  | (go_at_call 11; refine Calls.mono (zAq (HN.out.later HS.out.below) (HSL.out.later HS.out.below) (HO.out.later HS.out.below) HF.out) ?_; rintro e w2 ⟨rfl, b9⟩; have HS := hd (HS.out.call b9); clear b9)
  | (go_at_call 13; refine Calls.mono (zA4 (HN.out.later HS.out.below) (HSL.out.later HS.out.below) (HO.out.later HS.out.below) HRD.out HAP.out) ?_; rintro e w3 ⟨ca, ct, rfl, hna, hsa, b9⟩; have HNA := hd hna; have HSA := hd hsa; have HS := hd (HS.out.call b9); clear b9 hna hsa; dsimp only)
  | ((with_reducible refine zF (ty := 26) (x := .tmp 7) ?_); refine zA zD (r := ca.row) (zDj w3) rfl rfl ca.one _ _ rfl rfl rfl rfl rfl ?_; intro W7 hv7 ho7; have HV7 := hd hv7; have HT := hd (zDk ho7); clear hv7 ho7)
  | ((with_reducible refine zF (ty := 33) (x := .tmp 8) ?_); refine zA zP (r := ct.row) HT.out.2 rfl rfl ct.one _ _ rfl rfl rfl rfl rfl ?_; intro W8 hv8 ho8; have HV8 := hd hv8; have HB8 := hd (zDl HT.out.1 ho8); have HV7 := hd (HV7.out.off ho8 (by omega)); clear hv8 ho8))
 have HS5 := hd (show St5 w c s o w3.heap.size (w3.heap.size + 1) ca ct W8 from ⟨HS.out.call HB8.out, HV7.out, HV8.out⟩)
 have HNA2 := hd (HNA.out.later HB8.out)
 have HSA2 := hd (HSA.out.later HB8.out)
 clear HS HNA HSA HV7 HV8 HT HB8
 obtain ⟨g7, hg7⟩ : ∃ g, w3.heap.size = g := ⟨_, rfl⟩
 rw [hg7] at HS5
 try rw [hg7]
 clear hg7
 go_upto_region 22 with (first
  | ((with_reducible refine zC (ty := 3) (x := .tmp 31) ?_); refine zE HS5.out.st.v5 (j := 0) (v := .int .i64 o.k) _ rfl rfl rfl rfl Tryz.underlying3 rfl ?_)
  | ((with_reducible refine zC (ty := 26) ?_); refine kR HS5.out.st.v5 (j := 4) (vs := [.bool o.lf, .slice o.P o.np o.pc, .slice o.X o.nt o.tc, .slice o.K o.nk o.kc]) zCp _ rfl rfl rfl (by kernel_rfl) ?_)
  | (go_at_call 31; refine Calls.mono (zAa (c := o.nc) (zHw (HO.out.later HS5.out.st.below)) HSO.out) ?_; rintro e w12 ⟨rfl, b9⟩; have HS5 := hd (HS5.out.call b9); have HNA2 := hd (HNA2.out.later b9); clear b9)
  | ((with_reducible refine zC (ty := 23) ?_); refine zE HS5.out.st.v5 (j := 10) (v := .slice o.S o.nx o.cx) _ rfl rfl rfl rfl Tryz.underlying23 rfl ?_))
 refine jO (S := fun W' => Below w12.heap.size w12 W') (z := fun _ => false) (by kernel_rfl) ?_
 have HSS := hd (show Below w12.heap.size w12 w12.drew from (Below.refl _ _).drew)
 refine zH (i := 0) (n := 17) (.agg ca.row) rfl (by kernel_rfl) (by kernel_rfl) (by kernel_rfl) (by kernel_rfl) (fun _ _ _ h => h) (by kernel_rfl) (fun W9 hW9 => ?_) HSS.out ?_
 ·exact zS zD (HS5.out.call hW9).v7 rfl _ rfl (by kernel_rfl)
 simp only [Act.put, List.setIfInBounds_toArray]
 refine zH (i := 2) (n := 16) (.agg c.row) rfl (by kernel_rfl) (by kernel_rfl) (by kernel_rfl) (by kernel_rfl) (fun _ _ _ h => h) (by kernel_rfl) (fun W9 hW9 => ?_) HSS.out ?_
 ·exact zS zD (HS5.out.call hW9).st.v3 rfl _ rfl (by kernel_rfl)
 simp only [Act.put]
 refine zH (i := 4) (n := 15) (.int .i64 (-M)) rfl (by kernel_rfl) (by kernel_rfl) (by kernel_rfl) (by kernel_rfl) (fun _ _ _ h => h) (by kernel_rfl) (fun W9 hW9 => ?_) HSS.out ?_
 ·go_simp
 simp only [Act.put]
 refine kJ (i := 1) (n := 14) (by kernel_rfl) rfl (fun K hK => ?_)
 rw [if_pos (by kernel_rfl)]
 go_simp
 go_at_call 31
 refine Calls.mono (zAa (HNA2.out.later HSS.out) HSX.out) ?_
 rintro e w9 ⟨rfl, b9⟩
 have HSS := hd (zI HSS.out b9)
 clear b9
 refine hK _ _ (fun _ => HSS.out) ?_
 clear hK K
 refine kJ (i := 3) (n := 13) (by kernel_rfl) rfl (fun K hK => ?_)
 rw [if_pos (by kernel_rfl)]
 go_simp
 go_at_call 31
 refine Calls.mono (zAa (HN.out.later ((HS5.out.call HSS.out).st.below)) HSN.out) ?_
 rintro e w9 ⟨rfl, b9⟩
 have HSS := hd (zI HSS.out b9)
 clear b9
 refine hK _ _ (fun _ => HSS.out) ?_
 clear hK K
 refine zH (i := 5) (n := 12) (.int .i64 X) rfl (by kernel_rfl) (by kernel_rfl) (by kernel_rfl) (by kernel_rfl) (fun _ _ _ h => h) (by kernel_rfl) (fun W9 hW9 => ?_) HSS.out ?_
 ·rw [HXX.out]; go_simp
 simp only [Act.put]
 refine zH (i := 6) (n := 11) (.bool true) rfl (by kernel_rfl) (by kernel_rfl) (by kernel_rfl) (by kernel_rfl) (fun _ _ _ h => h) (by kernel_rfl) (fun W9 hW9 => ?_) HSS.out ?_
 ·go_simp
 simp only [Act.put]
 refine zH (i := 7) (n := 10) (.bool true) rfl (by kernel_rfl) (by kernel_rfl) (by kernel_rfl) (by kernel_rfl) (fun _ _ _ h => h) (by kernel_rfl) (fun W9 hW9 => ?_) HSS.out ?_
 ·go_simp
 simp only [Act.put]
 refine zH (i := 8) (n := 9) (.pointer (some ⟨w.heap.size + 1 + 1, 0, none⟩)) rfl (by kernel_rfl) (by kernel_rfl) (by kernel_rfl) (by kernel_rfl) (fun _ _ _ h => h) (by kernel_rfl) (fun W9 hW9 => ?_) HSS.out ?_
 ·go_simp
 simp only [Act.put]
 refine zH (i := 9) (n := 8) (.int .i64 o.k) rfl (by kernel_rfl) (by kernel_rfl) (by kernel_rfl) (by kernel_rfl) (fun _ _ _ h => h) (by kernel_rfl) (fun W9 hW9 => ?_) HSS.out ?_
 ·exact zCi (HS5.out.call hW9).st.v5 _ rfl rfl
 simp only [Act.put]
 refine zH (i := 10) (n := 7) (.bool true) rfl (by kernel_rfl) (by kernel_rfl) (by kernel_rfl) (by kernel_rfl) (fun _ _ _ h => h) (by kernel_rfl) (fun W9 hW9 => ?_) HSS.out ?_
 ·go_simp
 simp only [Act.put]
 refine zH (i := 11) (n := 6) (.bool true) rfl (by kernel_rfl) (by kernel_rfl) (by kernel_rfl) (by kernel_rfl) (fun _ _ _ h => h) (by kernel_rfl) (fun W9 hW9 => ?_) HSS.out ?_
 ·go_simp
 simp only [Act.put]
 refine zBx (i := 12) (n := 5) rfl (by kernel_rfl) (by kernel_rfl) (by kernel_rfl) (by kernel_rfl) (fun _ _ _ h => h) (by kernel_rfl) HSS.out ?_
 simp only [Act.put]
 refine zBx (i := 13) (n := 4) rfl (by kernel_rfl) (by kernel_rfl) (by kernel_rfl) (by kernel_rfl) (fun _ _ _ h => h) (by kernel_rfl) HSS.out ?_
 simp only [Act.put]
 refine zBx (i := 14) (n := 3) rfl (by kernel_rfl) (by kernel_rfl) (by kernel_rfl) (by kernel_rfl) (fun _ _ _ h => h) (by kernel_rfl) HSS.out ?_
 simp only [Act.put]
 refine zH (i := 15) (n := 2) (.bool true) rfl (by kernel_rfl) (by kernel_rfl) (by kernel_rfl) (by kernel_rfl) (fun _ _ _ h => h) (by kernel_rfl) (fun W9 hW9 => ?_) HSS.out ?_
 ·go_simp
 simp only [Act.put]
 refine zH (i := 16) (n := 1) (.bool true) rfl (by kernel_rfl) (by kernel_rfl) (by kernel_rfl) (by kernel_rfl) (fun _ _ _ h => h) (by kernel_rfl) (fun W9 hW9 => ?_) HSS.out ?_
 ·go_simp
 simp only [Act.put]
 refine kJ (i := 17) (n := 0) (by kernel_rfl) rfl (fun K hK => ?_)
 rw [if_pos (by kernel_rfl)]
 go_simp
 refine hK _ _ (fun _ => HSS.out) (zAl (by kernel_rfl) ?_)
 go_wp2_with fail
 go_ret
 exact ⟨rfl, (HS5.out.call HSS.out).st.below⟩
end Go.Proofs.YtmkciabefepelaaGreat
