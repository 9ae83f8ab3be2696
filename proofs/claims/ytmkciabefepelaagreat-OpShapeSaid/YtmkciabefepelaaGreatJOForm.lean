/- What an operation that can be done has changed: other Kids, or another node, at one place. -/
import Derived.Test.YtmkciabefepelaaGreatJBFew
import Derived.Test.YtmkciabefepelaaGreatJQPlain
import Derived.Test.YtmkciabefepelaaGreatJKOrd
set_option maxRecDepth 4000
namespace Go.Proofs.YtmkciabefepelaaGreat
theorem zO {α β : Type} {p : α × β} {a : α} {b : β} (h : p = (a, b)) : p.1 = a /\ p.2 = b := by subst h; exact ⟨rfl, rfl⟩
structure kMc (n : NT) (p : List Int) (m a : NT) (u : List Int) (i : Nat) (x : NT) : Prop where
 path : p = u ++ [(i : Int)]
 at_ : kB n u = some x
 elem : x.lf = false
 le : i <= x.ks.length
 eq : a = putT n u (jS x i 0 [m])
theorem zD7 {n a m : NT} {p : List Int} (h : zGo n p m = (a, 0)) : ∃ u i x, kMc n p m a u i x := by
 unfold zGo at h
 split at h
 ·cases h
 ·rename_i hp
  cases hg : kB n (upP p) with
  | none => rw [zFq (zBa _ _) hg] at h; cases h
  | some x =>
   rcases Classical.em ((zGn (lastL p) m x).2 = 0) with h0 | h0
   ·rw [zCe (zBa _ _) hg h0] at h
    have h1 := (zO h).1
    unfold zGn at h0 h1
    by_cases hl : x.lf = true
    ·rw [if_pos hl] at h0; cases h0
    rw [if_neg hl] at h0 h1
    by_cases hi : lastL p < 0 ∨ (x.ks.length : Int) < lastL p
    ·rw [if_pos hi] at h0; cases h0
    rw [if_neg hi] at h1
    refine ⟨upP p, (lastL p).toNat, x, ?_, hg, by simpa using hl, by omega, h1.symm⟩
    conv => lhs; rw [zQa hp]
    congr 2
    omega
   ·rw [zHu (zBa _ _) hg h0] at h
    exact absurd (zO h).2 h0
structure zZi (n : NT) (p : List Int) (u : List Int) (i : Nat) (x k : NT) : Prop where
 path : p = u ++ [(i : Int)]
 at_ : kB n u = some x
 kid : x.ks[i]? = some k
 got : zE3 n p = k
 eq : (zBw n p).1 = putT n u (jS x i 1 [])
theorem zBn {n : NT} {p : List Int} (h : (zBw n p).2 = 0) : ∃ u i x k, zZi n p u i x k := by
 obtain ⟨x, k, hp, hg, hk, hm, he, _, _⟩ := zM8 h
 obtain ⟨k1, k2, k3⟩ := zA1 hk
 refine ⟨upP p, (lastL p).toNat, x, k, ?_, hg, k3, hm, he⟩
 conv => lhs; rw [zQa hp]
 congr 2
 omega
structure kMd (n : NT) (o : OpP) (a : NT) (u : List Int) (i : Nat) (x b k : NT) : Prop where
 path : o.q = u ++ [((i + 1 : Nat) : Int)]
 at_ : kB n u = some x
 b_ : x.ks[i]? = some b
 k_ : x.ks[i + 1]? = some k
 leaf : b.lf = k.lf
 pos : zG9 b = o.z
 old : k.ps = o.o
 eq : a = putT n u (jS x i 2 [zAo b k])
theorem zC5 {n a : NT} {o : OpP} (h : kBo n o = (a, 0)) : ∃ u i x b k, kMd n o a u i x b k := by
 unfold kBo at h
 by_cases hc : (zBw n o.q).2 = 0
 case neg => rw [if_pos hc] at h; exact absurd (zO h).2 hc
 rw [if_neg (by simp [hc])] at h
 by_cases hb : (jV o.q).2 = 0
 case neg => rw [if_pos hb] at h; cases h
 rw [if_neg (by simp [hb])] at h
 obtain ⟨u, j, x, k, hf⟩ := zBn hc
 obtain ⟨i, rfl⟩ : ∃ i, j = i + 1 := by
  rw [hf.path] at hb
  unfold jV at hb
  rw [if_neg (by simp), zC0] at hb
  by_cases h1 : (j : Int) <= 0
  ·rw [if_pos h1] at hb; cases hb
  ·exact ⟨j - 1, by omega⟩
 have hbk : jV o.q = (u ++ [(i : Int)], 0) := by rw [hf.path]; exact zFy u i
 have hlen := (List.getElem?_eq_some_iff.1 hf.kid).1
 have hbx : x.ks[i]? = some x.ks[i] := List.getElem?_eq_getElem (by omega)
 have hg2 := jX n u (jS x (i + 1) 1 []) x hf.at_
 have hsk : (jS x (i + 1) 1 []).ks[i]? = some x.ks[i] := by
  show (spl x.ks (i + 1) 1 [])[i]? = _
  rw [zBp (by omega) (by omega), hbx]
 have hgb : kB (zBw n o.q).1 (jV o.q).1 = some x.ks[i] := by
  rw [hbk, hf.eq, jJ, hg2]
  show kB (jS x (i + 1) 1 []) [(i : Int)] = _
  rw [zR, zA9, hsk]; rfl
 rw [kP hgb, hf.got] at h
 unfold kLk at h
 by_cases h1 : x.ks[i].lf = k.lf
 case neg => rw [if_pos h1] at h; cases h
 rw [if_neg (by simp [h1])] at h
 by_cases h2 : zG9 x.ks[i] = o.z
 case neg => rw [if_pos h2] at h; cases h
 rw [if_neg (by simp [h2])] at h
 by_cases h3 : k.ps = o.o
 case neg => rw [if_pos h3] at h; cases h
 rw [if_neg (by simp [h3])] at h
 refine ⟨u, i, x, x.ks[i], k, hf.path, hf.at_, hbx, hf.kid, h1, h2, h3, ?_⟩
 rw [<- (zO h).1, hbk, hf.eq, zEz _ _ _ _ _ hg2, zEo _ _ _ _ _ hf.at_, zSg hsk]
 show putT n u (setK (jS x (i + 1) 1 []) i (zAo x.ks[i] k)) = _
 congr 1
 show NT.mk _ _ _ (spl (spl x.ks (i + 1) 1 []) i 1 [_]) = NT.mk _ _ _ _
 rw [zX1 (by omega)]
 rfl
structure kMe (n : NT) (o : OpP) (a : NT) (u : List Int) (i : Nat) (x k : NT) : Prop where
 path : o.q = u ++ [(i : Int)]
 at_ : kB n u = some x
 elem : x.lf = false
 kid : x.ks[i]? = some k
 new : chk o.w = 0
 lo : 0 <= o.z
 hi : o.z <= zG9 k
 eq : a = putT n u (jS x i 1 [jN k o.z.toNat, zA2 k o.z.toNat o.w])
theorem zZj {n x k h t : NT} {u : List Int} {i : Nat} (hg : kB n u = some x) (hk : x.ks[i]? = some k) : kB (putT n (u ++ [(i : Int)]) h) u = some (setK x i h) /\ putT (putT n (u ++ [(i : Int)]) h) u (jS (setK x i h) (i + 1) 0 [t]) = putT n u (jS x i 1 [h, t]) := by
 have e : putT n (u ++ [(i : Int)]) h = putT n u (setK x i h) := by rw [zEz _ _ _ _ _ hg, zSg hk]
 have hlen := (List.getElem?_eq_some_iff.1 hk).1
 rw [e]
 refine ⟨jX n u _ x hg, ?_⟩
 rw [zEo _ _ _ _ _ hg]
 congr 1
 show NT.mk _ _ _ (spl (spl x.ks i 1 [h]) (i + 1) 0 [t]) = NT.mk _ _ _ _
 rw [kF8 hlen]
 rfl
theorem zCc {n a : NT} {o : OpP} (hm : ∀ u x, kB n u = some x -> x.ks.length < 9223372036854775807) (h : kBp n o = (a, 0)) : ∃ u i x k, kMe n o a u i x k := by
 unfold kBp at h
 by_cases hw : chk o.w = 0
 case neg => rw [if_pos hw] at h; exact absurd (zO h).2 hw
 rw [if_neg (by simp [hw])] at h
 by_cases hc : (zBw n o.q).2 = 0
 case neg => rw [if_pos hc] at h; exact absurd (zO h).2 hc
 rw [if_neg (by simp [hc])] at h
 obtain ⟨u, i, x, k, hf⟩ := zBn hc
 have hlen := (List.getElem?_eq_some_iff.1 hf.kid).1
 have hx := hm u x hf.at_
 rw [hf.got] at h
 unfold kLl at h
 by_cases hz : o.z < 0 ∨ zG9 k < o.z
 ·rw [if_pos hz] at h; cases h
 rw [if_neg hz, hf.path, zLp u i (by omega)] at h
 obtain ⟨e1, e2⟩ := zZj (h := jN k o.z.toNat) (t := zA2 k o.z.toNat o.w) hf.at_ hf.kid
 obtain ⟨u2, i2, y, ha⟩ := zD7 h
 have hu : u2 = u /\ i2 = i + 1 := by
  have e3 := ha.path
  have e4 := congrArg upP e3
  have e5 := congrArg lastL e3
  rw [zOm, zOm] at e4
  rw [zC0, zC0] at e5
  exact ⟨e4.symm, by omega⟩
 obtain ⟨rfl, rfl⟩ := hu
 have hy : y = setK x i (jN k o.z.toNat) := by
  have := ha.at_
  rw [e1] at this
  injection this with this
  exact this.symm
 subst hy
 exact ⟨u2, i, x, k, hf.path, hf.at_, ha.elem, hf.kid, hw, by omega, by omega, by rw [ha.eq, e2]⟩
end Go.Proofs.YtmkciabefepelaaGreat
namespace Go.Proofs.YtmkciabefepelaaGreat
open Go.RowKit
theorem zTb (ks : List NT) (i m : Nat) : sizeK ks = sizeK (ks.take i) + sizeK ((ks.drop i).take m) + sizeK (ks.drop (i + m)) := by
 have e : ks = ks.take i ++ ((ks.drop i).take m ++ ks.drop (i + m)) := by
  conv => lhs; rw [<- List.take_append_drop i ks, <- List.take_append_drop m (ks.drop i), List.drop_drop]
 conv => lhs; rw [e]
 rw [kZ, kZ]; omega
theorem kC3 (x : NT) (i m : Nat) (o : List NT) : sizeT (jS x i m o) + sizeK ((x.ks.drop i).take m) = sizeT x + sizeK o := by
 have h := zTb x.ks i m
 rw [jC (jS x i m o), jC x]
 show 1 + x.tx.length + sizeK (spl x.ks i m o) + _ = _
 unfold spl
 rw [kZ, kZ]
 omega
theorem zGu {n x : NT} {u : List Int} (h : kB n u = some x) (i m : Nat) (o : List NT) : sizeT (putT n u (jS x i m o)) + sizeK ((x.ks.drop i).take m) = sizeT n + sizeK o := by
 have h1 := zBo n u (jS x i m o) x h
 have h2 := kC3 x i m o
 omega
theorem zCk {ks : List NT} {i : Nat} {k : NT} (h : ks[i]? = some k) : (ks.drop i).take 1 = [k] := by
 rw [zCo h]; rfl
theorem zDi {ks : List NT} {i : Nat} {b k : NT} (hb : ks[i]? = some b) (hk : ks[i + 1]? = some k) : (ks.drop i).take 2 = [b, k] := by
 rw [zCo hb, zCo hk]; rfl
theorem zJd (b k : NT) : sizeT (zAo b k) + 1 = sizeT b + sizeT k := by
 rw [jC (zAo b k), jC b, jC k]
 show 1 + (b.tx ++ k.tx).length + sizeK (b.ks ++ k.ks) + 1 = _
 rw [kZ, List.length_append]; omega
theorem zGv (k : NT) (i : Nat) (w : List Pr) : sizeT (jN k i) + sizeT (zA2 k i w) = sizeT k + 1 := by
 unfold jN zA2
 by_cases h : k.lf = true
 ·rw [if_pos h, if_pos h, jC k]
  simp only [sizeT, sizeK, List.length_take, List.length_drop]; omega
 ·rw [if_neg h, if_neg h, jC k]
  simp only [sizeT, List.length_nil]
  have : sizeK k.ks = sizeK (k.ks.take i) + sizeK (k.ks.drop i) := by rw [<- kZ, List.take_append_drop]
  omega
theorem zF6 (k : NT) (ps : List Pr) : sizeT (zEs k ps) = sizeT k := by rw [jC k]; simp only [zEs, sizeT]
theorem zDe (k : NT) (tx : List Int) : sizeT (zCz k tx) + k.tx.length = sizeT k + tx.length := by rw [jC k]; simp only [zCz, sizeT]; omega
theorem zZk {lf : Bool} {ps : List Pr} {tx : List Int} {nk : Nat} : zPb lf ps tx nk = 0 ↔ chk ps = 0 /\ (lf = true -> nk = 0) /\ (lf = false -> tx = []) /\ zNh tx = 0 := by
 unfold zPb
 by_cases h1 : chk ps = 0
 case neg => rw [if_pos h1]; exact ⟨fun h => absurd h h1, fun h => absurd h.1 h1⟩
 rw [if_neg (by simp [h1])]
 cases lf
 ·by_cases h2 : tx = []
  ·subst h2; simp [h1]
  ·have : 0 < tx.length := by cases tx <;> simp_all
   simp [h1, h2, this]
 ·by_cases h2 : nk = 0
  ·subst h2; simp [h1]
  ·have : 0 < nk := by omega
   simp [h1, h2, this]
theorem kC4 (n : NT) : zAh n = 0 ↔ zPb n.lf n.ps n.tx n.ks.length = 0 /\ kBr n.ks = 0 := by
 cases n with
 | mk lf ps tx ks =>
  rw [zAh]
  simp only [NT.lf, NT.ps, NT.tx, NT.ks]
  by_cases h : zPb lf ps tx ks.length = 0
  ·rw [if_neg (by simp [h])]; simp [h]
  ·rw [if_pos h]; simp [h]
theorem zUr : ∀ (l : List NT), kBr l = 0 ↔ ∀ k ∈ l, zAh k = 0
 | [] => by simp [kBr]
 | k :: r => by
  rw [kBr]
  by_cases h : zAh k = 0
  ·rw [if_neg (by simp [h]), zUr r]; simp [h]
  ·rw [if_pos h]; simp [h]
theorem kY (n : NT) : zAh n = 0 ↔ chk n.ps = 0 /\ (n.lf = true -> n.ks = []) /\ (n.lf = false -> n.tx = []) /\ zNh n.tx = 0 /\ ∀ k ∈ n.ks, zAh k = 0 := by
 rw [kC4, zZk, zUr]
 constructor
 ·rintro ⟨⟨h1, h2, h3, h4⟩, h5⟩
  exact ⟨h1, fun e => List.eq_nil_of_length_eq_zero (h2 e), h3, h4, h5⟩
 ·rintro ⟨h1, h2, h3, h4, h5⟩
  exact ⟨⟨h1, fun e => by rw [h2 e]; rfl, h3, h4⟩, h5⟩
theorem zAk {n k : NT} {i : Nat} (h : zAh n = 0) (hk : n.ks[i]? = some k) : zAh k = 0 := ((kY n).1 h).2.2.2.2 k (List.mem_of_getElem? hk)
theorem zA6 : ∀ (n : NT) (p : List Int) (x : NT), zAh n = 0 -> kB n p = some x -> zAh x = 0
 | n, [], x => fun h hg => by injection hg with hg; subst hg; exact h
 | n, i :: r, x => by
  rw [zR]
  cases hk : zBh n i with
  | none => intro _ h2; cases h2
  | some k =>
   intro h h2
   exact zA6 k r x (zAk h (zA1 hk).2.2) h2
end Go.Proofs.YtmkciabefepelaaGreat
namespace Go.Proofs.YtmkciabefepelaaGreat
theorem zDa {x k : NT} {j : Int} (h : zBh x j = some k) : ∃ i : Nat, j = (i : Int) /\ x.ks[i]? = some k := by
 obtain ⟨h1, h2, h3⟩ := zA1 h
 exact ⟨j.toNat, by omega, h3⟩
end Go.Proofs.YtmkciabefepelaaGreat
namespace Go.Proofs.YtmkciabefepelaaGreat
open Go.RowKit
theorem jZ {n a : NT} {o : OpP} {f : List Int -> List Int × Int} (h : zP1 n o f = (a, 0)) : ∃ k, kB n o.q = some k /\ k.lf = true /\ (f k.tx).2 = 0 /\ a = putT n o.q (zCz k (f k.tx).1) := by
 unfold zP1 at h
 cases hg : kB n o.q with
 | none => rw [zB2 hg, if_pos (by decide)] at h; cases h
 | some k =>
  rw [kP hg, if_neg (by simp)] at h
  by_cases hl : k.lf = false
  ·rw [if_pos hl] at h; cases h
  rw [if_neg hl] at h
  unfold kI0 at h
  by_cases h0 : (f k.tx).2 = 0
  case neg => rw [if_pos h0] at h; exact absurd (zO h).2 h0
  rw [if_neg (by simp [h0])] at h
  exact ⟨k, rfl, by simpa using hl, h0, (zO h).1.symm⟩
theorem zC6 {n a : NT} {o : OpP} (h : setO n o = (a, 0)) : ∃ k, o.q.length ≠ 0 /\ kB n o.q = some k /\ Can k.ps o.o o.w /\ a = putT n o.q (zEs k (zA7 k.ps o.o o.w)) := by
 unfold setO at h
 by_cases hq : o.q.length = 0
 ·rw [if_pos hq] at h; cases h
 rw [if_neg hq] at h
 cases hg : kB n o.q with
 | none => rw [zB2 hg, if_pos (by decide)] at h; cases h
 | some k =>
  rw [kP hg, if_neg (by simp)] at h
  unfold set2 at h
  by_cases h0 : PE k.ps o.o o.w = 0
  case neg => rw [if_pos h0] at h; exact absurd (zO h).2 h0
  rw [if_neg (by simp [h0])] at h
  exact ⟨k, hq, rfl, zPj.1 h0, (zO h).1.symm⟩
theorem zCd {n a : NT} {o : OpP} (h : kB7 n o = (a, 0)) : zAd o.n = 0 /\ zGo n o.q o.n = (a, 0) := by
 unfold kB7 at h
 by_cases h0 : zAd o.n = 0
 case neg => rw [if_pos h0] at h; exact absurd (zO h).2 h0
 rw [if_neg (by simp [h0])] at h
 exact ⟨h0, h⟩
theorem zCl {n a : NT} {o : OpP} (h : zVk n o = (a, 0)) : zBw n o.q = (a, 0) /\ zE3 n o.q = o.n := by
 unfold zVk at h
 by_cases h0 : (zBw n o.q).2 = 0
 case neg => rw [if_pos h0] at h; exact absurd (zO h).2 h0
 rw [if_neg (by simp [h0])] at h
 by_cases h1 : eqT (zE3 n o.q) o.n = true
 case neg => rw [if_neg h1] at h; cases h
 rw [if_pos h1] at h
 exact ⟨Prod.ext (zO h).1 h0, (zIw _ _).1 h1⟩
theorem zBz {n a : NT} {o : OpP} (h : zVl n o = (a, 0)) : (zBw n o.q).2 = 0 /\ zGo (zBw n o.q).1 o.t (zE3 n o.q) = (a, 0) := by
 unfold zVl at h
 by_cases h0 : (zBw n o.q).2 = 0
 case neg => rw [if_pos h0] at h; exact absurd (zO h).2 h0
 rw [if_neg (by simp [h0])] at h
 exact ⟨h0, h⟩
theorem zKi {r s l : List Int} {p : Int} (h : zFx r p s = (l, 0)) : l.length = r.length + s.length := (zSq r p s l h).2
theorem zKj {r s l : List Int} {p : Int} (h : zFe r p s = (l, 0)) : l.length + s.length = r.length := ((zSq l p s r (zYn r p s l h)).2).symm
theorem zC7 {n a : NT} {o : OpP} (h1 : 1 <= o.k) (h8 : o.k <= 8) (h : doO n o = (a, 0)) :
  (o.k = 1 /\ kB7 n o = (a, 0)) ∨ (o.k = 2 /\ zVk n o = (a, 0)) ∨ (o.k = 3 /\ kBo n o = (a, 0)) ∨ (o.k = 4 /\ kBp n o = (a, 0)) ∨ (o.k = 5 /\ zVl n o = (a, 0)) ∨ (o.k = 6 /\ setO n o = (a, 0)) ∨ (o.k = 7 /\ zP1 n o (fun r => zFx r o.z o.x) = (a, 0)) ∨ (o.k = 8 /\ zP1 n o (fun r => zFe r o.z o.x) = (a, 0)) := by
 unfold doO at h
 rcases (show o.k = 1 ∨ o.k = 2 ∨ o.k = 3 ∨ o.k = 4 ∨ o.k = 5 ∨ o.k = 6 ∨ o.k = 7 ∨ o.k = 8 by omega) with e | e | e | e | e | e | e | e <;> simp only [e] at h <;> simp at h <;> simp [e, h]
def byO (o : OpP) : Int := if o.k = 1 then sizeT o.n else if o.k = 2 then -(sizeT o.n : Int) else if o.k = 3 then -1 else if o.k = 4 then 1 else if o.k = 7 then o.x.length else if o.k = 8 then -(o.x.length : Int) else 0
theorem kHb {o : OpP} (e : o.k = 1) : byO o = sizeT o.n := by unfold byO; rw [if_pos e]
theorem kHc {o : OpP} (e : o.k = 2) : byO o = -(sizeT o.n : Int) := by unfold byO; rw [if_neg (by omega), if_pos e]
theorem kHd {o : OpP} (e : o.k = 3) : byO o = -1 := by unfold byO; rw [if_neg (by omega), if_neg (by omega), if_pos e]
theorem kHe {o : OpP} (e : o.k = 4) : byO o = 1 := by unfold byO; rw [if_neg (by omega), if_neg (by omega), if_neg (by omega), if_pos e]
theorem kHf {o : OpP} (e : o.k = 7) : byO o = o.x.length := by unfold byO; rw [if_neg (by omega), if_neg (by omega), if_neg (by omega), if_neg (by omega), if_pos e]
theorem kHg {o : OpP} (e : o.k = 8) : byO o = -(o.x.length : Int) := by unfold byO; rw [if_neg (by omega), if_neg (by omega), if_neg (by omega), if_neg (by omega), if_neg (by omega), if_pos e]
theorem zXp {o : OpP} (e : o.k = 5 ∨ o.k = 6 ∨ o.k = 9) : byO o = 0 := by unfold byO; rw [if_neg (by omega), if_neg (by omega), if_neg (by omega), if_neg (by omega), if_neg (by omega), if_neg (by omega)]
theorem zFn {n : NT} {p : List Int} (h : (zBw n p).2 = 0) : sizeT (zBw n p).1 + sizeT (zE3 n p) = sizeT n := by
 obtain ⟨u, i, x, k, hf⟩ := zBn h
 have h1 := zGu hf.at_ i 1 []
 rw [zCk hf.kid] at h1
 rw [hf.eq, hf.got]
 simp only [sizeK] at h1
 omega
theorem zMm {n a : NT} {o : OpP} (hm : ∀ u x, kB n u = some x -> x.ks.length < 9223372036854775807) (h1 : 1 <= o.k) (h8 : o.k <= 8) (h : doO n o = (a, 0)) : (sizeT a : Int) = sizeT n + byO o := by
 rcases zC7 h1 h8 h with ⟨e, h⟩ | ⟨e, h⟩ | ⟨e, h⟩ | ⟨e, h⟩ | ⟨e, h⟩ | ⟨e, h⟩ | ⟨e, h⟩ | ⟨e, h⟩
 ·have := (zFl (zCd h).2).1
  rw [kHb e]; omega
 ·obtain ⟨h2, h3⟩ := zCl h
  have := zFn (n := n) (p := o.q) (by rw [h2])
  rw [h2, h3] at this
  dsimp only at this
  rw [kHc e]; omega
 ·obtain ⟨u, i, x, b, k, hf⟩ := zC5 h
  have h2 := zGu hf.at_ i 2 [zAo b k]
  rw [zDi hf.b_ hf.k_, <- hf.eq] at h2
  have h3 := zJd b k
  simp only [sizeK] at h2
  rw [kHd e]; omega
 ·obtain ⟨u, i, x, k, hf⟩ := zCc hm h
  have h2 := zGu hf.at_ i 1 [jN k o.z.toNat, zA2 k o.z.toNat o.w]
  rw [zCk hf.kid, <- hf.eq] at h2
  have h3 := zGv k o.z.toNat o.w
  simp only [sizeK] at h2
  rw [kHe e]; omega
 ·obtain ⟨h2, h3⟩ := zBz h
  have h4 := zFn h2
  have h5 := (zFl h3).1
  rw [zXp (by omega)]; omega
 ·obtain ⟨k, hq, hg, hc, rfl⟩ := zC6 h
  have h2 := zBo n o.q (zEs k (zA7 k.ps o.o o.w)) k hg
  rw [zF6] at h2
  rw [zXp (by omega)]; omega
 ·obtain ⟨k, hg, hl, h0, rfl⟩ := jZ h
  have h2 := zBo n o.q (zCz k (zFx k.tx o.z o.x).1) k hg
  have h3 := zDe k (zFx k.tx o.z o.x).1
  have h4 := zKi (r := k.tx) (s := o.x) (p := o.z) (l := (zFx k.tx o.z o.x).1) (Prod.ext rfl h0)
  rw [kHf e]; omega
 ·obtain ⟨k, hg, hl, h0, rfl⟩ := jZ h
  have h2 := zBo n o.q (zCz k (zFe k.tx o.z o.x).1) k hg
  have h3 := zDe k (zFe k.tx o.z o.x).1
  have h4 := zKj (r := k.tx) (s := o.x) (p := o.z) (l := (zFe k.tx o.z o.x).1) (Prod.ext rfl h0)
  rw [kHg e]; omega
theorem kX {k : NT} (h : zAh k = 0) : (k.lf = true -> k.ks = []) /\ (k.lf = false -> k.tx = []) := ⟨((kY k).1 h).2.1, ((kY k).1 h).2.2.1⟩
theorem kKb {n : NT} {o : OpP} (e : o.k = 1) : doO n o = kB7 n o := by unfold doO; rw [if_pos e]
theorem kM0 {n : NT} {o : OpP} (e : o.k = 2) : doO n o = zVk n o := by unfold doO; rw [if_neg (by omega), if_pos e]
theorem kM1 {n : NT} {o : OpP} (e : o.k = 3) : doO n o = kBo n o := by unfold doO; rw [if_neg (by omega), if_neg (by omega), if_pos e]
theorem kLm {n : NT} {o : OpP} (e : o.k = 4) : doO n o = kBp n o := by unfold doO; rw [if_neg (by omega), if_neg (by omega), if_neg (by omega), if_pos e]
theorem kLn {n : NT} {o : OpP} (e : o.k = 5) : doO n o = zVl n o := by unfold doO; rw [if_neg (by omega), if_neg (by omega), if_neg (by omega), if_neg (by omega), if_pos e]
theorem kLo {n : NT} {o : OpP} (e : o.k = 6) : doO n o = setO n o := by unfold doO; rw [if_neg (by omega), if_neg (by omega), if_neg (by omega), if_neg (by omega), if_neg (by omega), if_pos e]
theorem kLp {n : NT} {o : OpP} (e : o.k = 7) : doO n o = zP1 n o (fun r => zFx r o.z o.x) := by unfold doO; rw [if_neg (by omega), if_neg (by omega), if_neg (by omega), if_neg (by omega), if_neg (by omega), if_neg (by omega), if_pos e]
theorem kLq {n : NT} {o : OpP} (e : o.k = 8) : doO n o = zP1 n o (fun r => zFe r o.z o.x) := by unfold doO; rw [if_neg (by omega), if_neg (by omega), if_neg (by omega), if_neg (by omega), if_neg (by omega), if_neg (by omega), if_neg (by omega)]
theorem zC1 {n : NT} (h : zAd n = 0) : zAh n = 0 := by
 unfold zAd at h
 split at h
 ·cases h
 ·exact h
theorem zO5 {n : NT} (h : zAh n = 0) (hs : sizeT n <= 1048576) : zAd n = 0 := by
 unfold zAd
 rw [zGy _ (by omega) (by omega), if_neg (by omega)]; exact h
theorem zEf {α : Type} {a b : α} {e : Int} (h : (a, e) = (b, 0)) : e = 0 := by injection h
theorem zH8 {n : NT} {s : Sl} {o : OpP} {r : NT × Sl} (h : jL n s o = (r, 0)) : zAd n = 0 /\ n.lf = false /\ zE8 n s = 0 /\ zCx o = 0 /\
  ((o.k = 9 /\ s = o.f /\ zE8 n o.g = 0 /\ r = (n, o.g)) ∨ (1 <= o.k /\ o.k <= 8 /\ doO n o = (r.1, 0) /\ (s.is = true -> zBl s.a o = true /\ zBl s.f o = true) /\ r.2 = s)) := by
 unfold jL at h
 by_cases h1 : zAd n = 0
 case neg => rw [if_pos h1] at h; exact absurd (zEf h) h1
 rw [if_neg (by simp [h1])] at h
 by_cases h2 : n.lf = true
 ·rw [if_pos h2] at h; exact absurd (zEf h) (by decide)
 rw [if_neg h2] at h
 by_cases h3 : zE8 n s = 0
 case neg => rw [if_pos h3] at h; exact absurd (zEf h) h3
 rw [if_neg (by simp [h3])] at h
 by_cases h4 : zCx o = 0
 case neg => rw [if_pos h4] at h; exact absurd (zEf h) h4
 rw [if_neg (by simp [h4])] at h
 refine ⟨h1, by simpa using h2, h3, h4, ?_⟩
 have hk := (zOy h4).1
 simp only [kindB, Bool.and_eq_true, decide_eq_true_iff] at hk
 by_cases h9 : o.k = 9
 ·rw [if_pos h9] at h
  left
  by_cases h5 : zF7 s o.f = false
  ·rw [if_pos h5] at h; exact absurd (zEf h) (by decide)
  rw [if_neg h5] at h
  by_cases h6 : zE8 n o.g = 0
  case neg => rw [if_pos h6] at h; exact absurd (zEf h) h6
  rw [if_neg (by simp [h6])] at h
  exact ⟨h9, (zC4 _ _).1 (by simpa using h5), h6, (zO h).1.symm⟩
 ·rw [if_neg h9] at h
  right
  by_cases h5 : (doO n o).2 = 0
  case neg => rw [if_pos h5] at h; exact absurd (zEf h) h5
  rw [if_neg (by simp [h5])] at h
  by_cases h6 : (s.is && !(zBl s.a o && zBl s.f o)) = true
  ·rw [if_pos h6] at h; exact absurd (zEf h) (by decide)
  rw [if_neg h6] at h
  have hr := (zO h).1
  refine ⟨hk.1, by omega, by rw [<- hr]; exact Prod.ext rfl h5, fun his => ?_, by rw [<- hr]⟩
  rw [his] at h6
  simpa using h6
theorem zJk {n : NT} {s : Sl} {o : OpP} (h : (jL n s o).2 ≠ 0) : (jL n s o).1 = (zeroT, zeroS) := by
 unfold jL at h ⊢
 by_cases h1 : zAd n = 0
 case neg => rw [if_pos h1]
 rw [if_neg (by simp [h1])] at h ⊢
 by_cases h2 : n.lf = true
 ·rw [if_pos h2]
 rw [if_neg h2] at h ⊢
 by_cases h3 : zE8 n s = 0
 case neg => rw [if_pos h3]
 rw [if_neg (by simp [h3])] at h ⊢
 by_cases h4 : zCx o = 0
 case neg => rw [if_pos h4]
 rw [if_neg (by simp [h4])] at h ⊢
 by_cases h9 : o.k = 9
 ·rw [if_pos h9] at h ⊢
  by_cases h5 : zF7 s o.f = false
  ·rw [if_pos h5]
  rw [if_neg h5] at h ⊢
  by_cases h6 : zE8 n o.g = 0
  case neg => rw [if_pos h6]
  rw [if_neg (by simp [h6])] at h
  exact absurd rfl h
 ·rw [if_neg h9] at h ⊢
  by_cases h5 : (doO n o).2 = 0
  case neg => rw [if_pos h5]
  rw [if_neg (by simp [h5])] at h ⊢
  by_cases h6 : (s.is && !(zBl s.a o && zBl s.f o)) = true
  ·rw [if_pos h6]
  rw [if_neg h6] at h
  exact absurd rfl h
theorem zQ8 {n a : NT} {s : Sl} {o : OpP} (h1 : zAd n = 0) (h2 : n.lf = false) (h3 : zE8 n s = 0) (h4 : zCx o = 0) (h9 : o.k <= 8) (h5 : doO n o = (a, 0)) (h6 : s.is = true -> zBl s.a o = true /\ zBl s.f o = true) : jL n s o = ((a, s), 0) := by
 unfold jL
 rw [if_neg (by simp [h1]), if_neg (by simp [h2]), if_neg (by simp [h3]), if_neg (by simp [h4]), if_neg (by omega), h5, if_neg (by simp)]
 have h7 : (s.is && !(zBl s.a o && zBl s.f o)) = false := by
  cases h : s.is
  ·rfl
  ·obtain ⟨e1, e2⟩ := h6 h
   rw [e1, e2]; rfl
 rw [h7, if_neg (by simp)]
structure zTc (n : NT) (o : OpP) : Prop where
 len : ∀ u x, kB n u = some x -> x.ks.length < 9223372036854775807
 size : sizeT n <= 300
 node : o.k = 1 -> sizeT o.n <= 300
 text : o.x.length <= 300
theorem zN9 {n : NT} (h : sizeT n <= 100000) : ∀ u x, kB n u = some x -> x.ks.length < 9223372036854775807 := fun u x hx => by
 have h1 := zGh u n x hx
 have h2 : ∀ (l : List NT), l.length <= sizeK l := fun l => by
  induction l with
  | nil => simp
  | cons k r ih => have := zJs k; simp only [List.length_cons, sizeK]; omega
 have h3 := h2 x.ks
 rw [jC x] at h1
 omega
def kC5 (t : TypeId) (n : Nat) : Prop := ∃ d, Tryz.prog.underlying t = some d /\ d.isRow = true /\ (Tryz.prog.info? t).map (·.size) = some n
def jT (t : TypeId) (w : World) (g : Nat) (r : Array Value) : Prop := w.heap[g]? = some (.cells r t (0, 0))
section
variable {t : TypeId} {w w' : World} {g : Nat} {r r' : Array Value}
theorem jT.lt (h : jT t w g r) : g < w.heap.size := (Array.getElem?_eq_some_iff.1 h).1
theorem jT.keep (h : jT t w g r) (hb : Below w.heap.size w w') : jT t w' g r := (hb.block _ h.lt).trans h
theorem jT.off {k : Nat} (h : jT t w g r) (ho : Off k w w') (hne : g ≠ k) : jT t w' g r := (ho.block _ h.lt hne).trans h
theorem jT.new (w : World) (t : TypeId) (r : Array Value) : jT t (w.alloc (.cells r t)) w.heap.size r := heap_alloc_new w _
theorem jT.alloc (h : jT t w g r) (o : Obj) : jT t (w.alloc o) g r := h.keep ((Below.refl _ _).alloc (Nat.le_refl _) _)
theorem jT.cell (h : jT t w g r) (j : Nat) (v : Value) (hv : r[j]? = some v) : w.cell? ⟨g, j, none⟩ = some v := by
 unfold jT at h
 simp [World.cell?, h, hv]
end
theorem zB {t : TypeId} {n : Nat} (hrow : kC5 t n) {ops : Array Oper} {rest : List Oper} {op : Oper} {a : Act} {w : World} {Q : Exit -> Act -> World -> Prop} {g : Nat} {r : Array Value} (h : jT t w g r) (hn : r.size = n)
  (x : Operand) (ho : op.op = .load t x) (hgd : op.guard = none) (hx : a.eval x = .pointer (some ⟨g, 0, none⟩)) (hk : wpList Tryz.prog ops Q rest (a.put op.dst (.agg r)) w) : wpList Tryz.prog ops Q (op :: rest) a w := by
 obtain ⟨d, h1, h2, h3⟩ := hrow
 exact wpList_load_mid hgd t x ho g 0 hx r.toList d (fun i v hi => by rw [Nat.zero_add]; exact h.cell i v (by simpa using hi)) h1 h2 (by rw [h3, <- hn]; simp) hk
theorem zK {t : TypeId} {n : Nat} (hrow : kC5 t n) {ops : Array Oper} {rest : List Oper} {op : Oper} {a : Act} {w : World} {Q : Exit -> Act -> World -> Prop} {g : Nat} {r : Array Value} (h : jT t w g r) (hn : r.size = n)
  (x : Operand) (ho : op.op = .load t x) (hw : Region.wanted op (yielded ops a.tmps) = true) (hx : a.eval x = .pointer (some ⟨g, 0, none⟩)) (hk : wpList Tryz.prog ops Q rest (a.put op.dst (.agg r)) w) : wpList Tryz.prog ops Q (op :: rest) a w := by
 obtain ⟨d, h1, h2, h3⟩ := hrow
 refine wpList_step fun K hK => ?_
 rw [if_pos hw]
 exact wp_load_mid t x ho g 0 hx r.toList d (fun i v hi => by rw [Nat.zero_add]; exact h.cell i v (by simpa using hi)) h1 h2 (by rw [h3, <- hn]; simp) (hK _ _ hk)
theorem zA {t : TypeId} {n : Nat} (hrow : kC5 t n) {ops : Array Oper} {rest : List Oper} {op : Oper} {a : Act} {W : World} {Q : Exit -> Act -> World -> Prop} {g : Nat} {r0 r : Array Value} (h : jT t W g r0) (hn0 : r0.size = n) (hn : r.size = n) (hone : r.all (·.oneCell') = true) (x y : Operand) (ho : op.op = .store t x y) (hgd : op.guard = none) (hd : op.dst = none) (hx : a.eval x = .pointer (some ⟨g, 0, none⟩)) (hy : a.eval y = .agg r)
  (hk : ∀ W', jT t W' g r -> Off g W W' -> wpList Tryz.prog ops Q rest a W') : wpList Tryz.prog ops Q (op :: rest) a W := by
 obtain ⟨d, h3, h4, h5⟩ := hrow
 refine wpList_store_row hgd t x y ho g _ hx hy t r0 h (by rw [h5, <- hn]) (by rw [hn0, hn]) hone ?_
 rw [hd]
 exact hk _ (setRow_heap _ _ r0 r _ (0, 0) h) (zKw _ _ _ _ _ h)
theorem zD : kC5 26 4 := zCp
theorem zP : kC5 33 5 := zD4
theorem zMk : kC5 35 21 := zK4
theorem jR.toR {w : World} {g : Nat} {c : OC} (h : jR w g c) : jT 35 w g c.row := h
structure NC where
 lf : Bool
 P : Option Addr
 np : Nat
 pc : Nat
 X : Option Addr
 nt : Nat
 tc : Nat
 K : Option Addr
 nk : Nat
 kc : Nat
def NC.row (c : NC) : Array Value := #[.bool c.lf, .slice c.P c.np c.pc, .slice c.X c.nt c.tc, .slice c.K c.nk c.kc]
theorem NC.size (c : NC) : c.row.size = 4 := rfl
theorem NC.one (c : NC) : c.row.all (·.oneCell') = true := by kernel_rfl
structure SC where
 is : Bool
 A : Option Addr
 n : Nat
 c : Nat
 x : Int
 B : Option Addr
 m : Nat
 d : Nat
 y : Int
def SC.row (c : SC) : Array Value := #[.bool c.is, .slice c.A c.n c.c, .int .i64 c.x, .slice c.B c.m c.d, .int .i64 c.y]
theorem SC.one (c : SC) : c.row.all (·.oneCell') = true := by kernel_rfl
def kS (w : World) (c : NC) (n : NT) : Prop := ∃ d, zV d w w.heap.size (.agg c.row) n
def zB1 (w : World) (c : SC) (s : Sl) : Prop := zIi w c.is c.A c.n c.c c.x c.B c.m c.d c.y s
theorem kS.later {w w' : World} {c : NC} {n : NT} (h : kS w c n) (hb : Below w.heap.size w w') : kS w' c n := by
 obtain ⟨d, h⟩ := h
 exact ⟨d, h.later hb⟩
theorem zB1.later {w w' : World} {c : SC} {s : Sl} (h : zB1 w c s) (hb : Below w.heap.size w w') : zB1 w' c s := zIi.later h hb
theorem zFo {d : Nat} {w : World} {v : Value} {n : NT} (h : zV d w w.heap.size v n) : ∃ c : NC, v = .agg c.row /\ kS w c n := by
 cases d with
 | zero => exact h.elim
 | succ d =>
  obtain ⟨PA, pc, TA, tc, KA, kc, rfl, hp, ht, hf, hks⟩ := h
  exact ⟨⟨n.lf, PA, n.ps.length, pc, TA, n.tx.length, tc, KA, n.ks.length, kc⟩, rfl, d + 1, PA, pc, TA, tc, KA, kc, rfl, hp, ht, hf, hks⟩
def zTd (w : World) (r : (NT × Sl) × Int) (e : Ending) (w' : World) : Prop :=
 ∃ (c : NC) (s : SC), e = .returned (.tuple #[.agg c.row, .agg s.row, .int .i64 r.2]) /\ kS w' c r.1.1 /\ zB1 w' s r.1.2 /\ Below w.heap.size w w'
mutual
def kLr : NT -> Prop
 | .mk _ _ tx ks => tx.length <= 35184372088832 /\ kLs ks
def kLs : List NT -> Prop
 | [] => True
 | k :: r => kLr k /\ kLs r
end
theorem zZl : ∀ {l : List NT}, (∀ k ∈ l, kLr k) -> kLs l
 | [], _ => trivial
 | k :: _r, h => ⟨h k List.mem_cons_self, zZl fun x hx => h x (List.mem_cons_of_mem _ hx)⟩
theorem kFi : ∀ {d : Nat} {w : World} {B : Nat} {v : Value} {n : NT}, zV d w B v n -> kLr n
 | 0, _, _, _, _, h => h.elim
 | d + 1, _, _, _, .mk lf ps tx ks, ⟨PA, pc, TA, tc, KA, kc, e, hp, ht, hf, hks⟩ => by
  refine ⟨by have := hf.2.2.1; have := hf.2.1; simp only [NT.tx] at *; omega, zZl fun k hk => ?_⟩
  obtain ⟨j, hj⟩ := List.getElem?_of_mem hk
  obtain ⟨b, o, u, e1, hb, hn, _⟩ := hks j k hj
  exact kFi hn
theorem zZm {l : List Pr} (h : chk l = 0) : l.length <= 16 /\ ∀ p ∈ l, kJ8 p = 0 := by
 obtain ⟨h1, h2, h3⟩ := (zC8 l).1 h
 refine ⟨h1, fun p hp => ?_⟩
 obtain ⟨k1, k2⟩ := h2 p hp
 unfold zVt at k1
 unfold zXo at k2
 simp only [Bool.and_eq_true, decide_eq_true_iff] at k1 k2
 unfold kJ8
 omega
theorem zMl : ∀ {l : List Pr} {m : Int}, zFf m -> (∀ p ∈ l, kJ8 p = 0) -> zG6 m l = m
 | [], m, _, _ => rfl
 | p :: r, m, hm, h => by
  unfold zG6
  rw [List.foldl_cons, h p List.mem_cons_self, Int.sub_zero, zGy m hm.1 hm.2]
  exact zMl (l := r) hm (fun q hq => h q (List.mem_cons_of_mem _ hq))
mutual
theorem zUs : ∀ (n : NT) (m : Int), 0 <= m -> m <= 1000 -> kLr n -> zAh n = 0 -> 0 <= zF8 m n -> (sizeT n : Int) + zF8 m n <= m
 | .mk lf ps tx ks, m => fun h0 h1 hc hk hl => by
  obtain ⟨c1, c2⟩ := hc
  obtain ⟨k1, k2, k3, k4, k5⟩ := (kY _).1 hk
  simp only [NT.ps, NT.ks] at k1 k5
  obtain ⟨b1, b2⟩ := zZm k1
  rw [zF8] at hl ⊢
  rw [zGy (m - (1 + tx.length + ps.length)) (by omega) (by omega), zMl (by unfold zFf; omega) b2] at hl ⊢
  by_cases hneg : m - (1 + tx.length + ps.length) < 0
  ·rw [if_pos hneg] at hl; omega
  rw [if_neg hneg] at hl ⊢
  have ih := zQ9 ks _ (by omega) (by omega) c2 k5 hl
  simp only [sizeT]
  omega
theorem zQ9 : ∀ (l : List NT) (m : Int), 0 <= m -> m <= 1000 -> kLs l -> (∀ k ∈ l, zAh k = 0) -> 0 <= leftK m l -> (sizeK l : Int) + leftK m l <= m
 | [], m => fun h0 h1 _ _ _ => by simp only [sizeK, leftK]; omega
 | k :: r, m => fun h0 h1 hc hk hl => by
  rw [leftK] at hl ⊢
  by_cases hneg : zF8 m k < 0
  ·rw [if_pos hneg] at hl; omega
  rw [if_neg hneg] at hl ⊢
  have h2 := zUs k m h0 h1 hc.1 (hk k List.mem_cons_self) (by omega)
  have h3 := zQ9 r (zF8 m k) (by omega) (by omega) hc.2 (fun x hx => hk x (List.mem_cons_of_mem _ hx)) hl
  simp only [sizeK]
  omega
end
theorem zRa {d : Nat} {w : World} {B : Nat} {v : Value} {n : NT} {m : Int} (h : zV d w B v n) (h0 : 0 <= m) (h1 : m <= 1000) (hk : zAh n = 0) (hf : zI5 m n = true) : (sizeT n : Int) <= m := by
 have h2 := of_decide_eq_true hf
 have := zUs n m h0 h1 (kFi h) hk h2
 omega
def zB8 (n : NT) (s : Sl) (a : OpP) : Bool := zI5 120 n && fewS s && zT3 a
structure zRb (n : NT) (s : Sl) (a : OpP) : Prop where
 sel : fewS s = true
 tiny : zAf a
 size : zAh n = 0 -> sizeT n <= 900
 node : zAh a.n = 0 -> sizeT a.n <= 900
theorem jE {w : World} {c : NC} {o : OC} {n : NT} {s : Sl} {a : OpP} (h : zB8 n s a = true) (hn : kS w c n) (ho : OkA w o a) : zRb n s a /\ (zAh n = 0 -> sizeT n <= 120) /\ (zAh a.n = 0 -> sizeT a.n <= 100) := by
 unfold zB8 at h
 rw [Bool.and_eq_true, Bool.and_eq_true] at h
 obtain ⟨⟨h1, h2⟩, h3⟩ := h
 obtain ⟨d, hd⟩ := hn
 obtain ⟨d2, hd2⟩ := ho.hn
 have e1 : zAh n = 0 -> sizeT n <= 120 := fun hk => by have := zRa hd (m := 120) (by omega) (by omega) hk h1; omega
 have e2 : zAh a.n = 0 -> sizeT a.n <= 100 := fun hk => by
  have hf : zI5 100 a.n = true := by
   simp only [zT3, Bool.and_eq_true] at h3
   exact h3.1.1.1.1.2
  have := zRa hd2 (m := 100) (by omega) (by omega) hk hf; omega
 exact ⟨⟨h2, zXu h3, fun hk => by have := e1 hk; omega, fun hk => by have := e2 hk; omega⟩, e1, e2⟩
end Go.Proofs.YtmkciabefepelaaGreat
