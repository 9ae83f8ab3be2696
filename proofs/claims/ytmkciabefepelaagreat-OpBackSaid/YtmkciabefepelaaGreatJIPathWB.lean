/- Paths as lists of numbers: plain functions and facts; -/
import Derived.Test.YtmkciabefepelaaGreatJIPath
import Derived.Laws.Strings
import Derived.Test.YtmkciabefepelaaGreatJPSame
import Derived.Test.YtmkciabefepelaaGreatJIAlike
import Derived.Test.YtmkciabefepelaaGreatProg
import Derived.WalkKit
import Derived.WalkLawsBesides
import Derived.WalkSpells
import Derived.LoopTactic
import Derived.Outline
import Derived.Deep.Draws
import Derived.Deep.QuietTactic
import Derived.BigQuiet
import Derived.Below
import Derived.Laws.OwnMore
import Derived.Laws.MakeOwn
import Derived.Maps.AppendAt
import Derived.Deep.AppendLies
import Derived.RegionTactic
import Derived.OwnWalk
import Derived.WideShapes
import Derived.IntWalk
import Derived.Test.YtmkciabefepelaaGreatJTTree
import Derived.Test.YtmkciabefepelaaGreatJKTold
import Derived.Test.YtmkciabefepelaaGreatJTCut
import Derived.Deep.RegionHeld3
import Derived.Laws.AppendOwnNone
import Derived.Test.YtmkciabefepelaaGreatJTPut
import Derived.Test.YtmkciabefepelaaGreatTChange
import Derived.Test.YtmkciabefepelaaGreatJTGet
import Derived.Test.YtmkciabefepelaaGreatNCopy
import Derived.Test.YtmkciabefepelaaGreatJNRSame
import Derived.Test.YtmkciabefepelaaGreatJNEach
import Derived.Laws.EntriesVeiled
import Derived.Shelf.Abstract
import Derived.Laws.IdiomStrings
import Derived.Deep.DeepCutAuto
import Derived.Deep.CutBlock
import Derived.Deep.RegionLaw
import Derived.StillTailTactics
import Derived.ArgAppend
import Derived.Lib.SliceRun
import Derived.Test.YtmkciabefepelaaGreatJQPlain
import Derived.Test.YtmkciabefepelaaGreatBInv
import Derived.Test.YtmkciabefepelaaGreatBFresh
import Derived.Test.YtmkciabefepelaaGreatJCAny
import Derived.Test.YtmkciabefepelaaGreatJXMove5
import Derived.Test.YtmkciabefepelaaGreatXMove
import Derived.Test.YtmkciabefepelaaGreatJXCalls
import Derived.Lib.AppendZeros
import Derived.Deep.Cut
import Derived.BigRegion
import Derived.Deep.MidRow
import Derived.Laws.Tables
import Derived.Laws.ResultCell
import Derived.Maps.OwnOps
import Derived.OrdersHeld
import Derived.Test.YtmkciabefepelaaGreatJBWith
import Derived.Test.YtmkciabefepelaaGreatBEmpty
import Derived.Test.YtmkciabefepelaaGreatJBFew
import Derived.Test.YtmkciabefepelaaGreatJOForm
set_option maxRecDepth 4000
namespace Go.Proofs.YtmkciabefepelaaGreat
def zJb (a : List Int) : Int := if a.all (fun n => decide (0 <= n)) then 0 else 5
theorem zH6 (l : List Int) (v : Int) : (sib l v).length = l.length := by simp [sib]
theorem zUh (l : List Int) (v : Int) (h : l.length ≠ 0) : lastL (sib l v) = v := by
 unfold lastL; rw [zH6, jY _ _ (by rw [zH6]; omega)]; simp [sib]
theorem zYr (l : List Int) (u v : Int) : sib (sib l u) v = sib l v := by
 unfold sib; rw [List.length_set, List.set_set]
theorem zUi (l : List Int) : sib l (lastL l) = l := by
 unfold sib lastL
 apply List.ext_getElem
 ·simp
 ·intro i h1 h2
  by_cases e : l.length - 1 = i
  ·subst e; rw [List.getElem_set_self, jY _ _ h2]
  ·rw [List.getElem_set_ne e]
theorem zIs (x : Int) (a b : List Int) : zBu (x :: a) (x :: b) = zBu a b := by
 unfold zBu
 rw [kO, if_pos rfl]
 simp
end Go.Proofs.YtmkciabefepelaaGreat
namespace Go.Proofs.YtmkciabefepelaaGreat
open Go.RowKit
theorem jQ (a b : List NT) : textK (a ++ b) = textK a ++ textK b := by
 induction a with
 | nil => simp [textK]
 | cons x r ih => simp only [List.cons_append, textK, ih, List.append_assoc]
section
variable {σ : Type} (step : σ -> NT -> Bool × σ)
variable {step}
end
theorem zF3 {n k : NT} {i j : Int} (h : zOf n i = true) (hj : j ≠ i) : zBh (setK n i.toNat k) j = zBh n j := by
 rw [zEx] at h
 unfold zBh setK jS
 split
 ·show (spl n.ks i.toNat 1 [k])[j.toNat]? = _
  rw [zI0 (by omega), List.getElem?_set_ne (by omega)]
 ·rfl
theorem zHg : ∀ (n : NT) (p q : List Int) (m x : NT), kB n p = some x -> ¬ p <+: q -> ¬ q <+: p -> kB (putT n p m) q = kB n q
 | n, [], q, m, x => fun _ h _ => absurd (List.nil_prefix) h
 | n, i :: r, [], m, x => fun _ _ h => absurd (List.nil_prefix) h
 | n, i :: r, j :: s, m, x => by
  intro h0 h1 h2
  rw [zR] at h0
  cases h : zBh n i with
  | none => rw [h] at h0; cases h0
  | some k =>
   rw [h] at h0
   simp only [putT, h]
   rw [zR, zR]
   rcases Classical.em (j = i) with e | e
   ·subst e
    rw [zIg (zCy h), h]
    refine zHg k r s m x h0 (fun h3 => h1 ?_) (fun h3 => h2 ?_)
    ·exact (List.cons_prefix_cons).2 ⟨rfl, h3⟩
    ·exact (List.cons_prefix_cons).2 ⟨rfl, h3⟩
   ·rw [zF3 (zCy h) e]
theorem zL0 {ks : List NT} {i : Nat} {m : NT} (h : i <= ks.length) : (spl ks i 0 [m])[i]? = some m := by
 unfold spl
 have e : (ks.take i).length = i := by rw [List.length_take]; omega
 rw [Nat.add_zero, List.append_assoc, List.getElem?_append_right (by omega), e, Nat.sub_self]
 rfl
theorem zOu {n a m : NT} {p : List Int} (h : zGo n p m = (a, 0)) : zBw a p = (n, 0) /\ zE3 a p = m := by
 unfold zGo at h
 split at h
 ·cases h
 ·rename_i hp
  unfold zBw zE3
  rw [if_neg hp, if_neg hp]
  cases hg : kB n (upP p) with
  | none => rw [zFq (zBa _ _) hg] at h; cases h
  | some x =>
   rcases Classical.em ((zGn (lastL p) m x).2 = 0) with h0 | h0
   ·rw [zCe (zBa _ _) hg h0] at h
    injection h with h1 _
    have hx : (zGn (lastL p) m x).1 = jS x (lastL p).toNat 0 [m] /\ 0 <= lastL p /\ lastL p <= x.ks.length := by
     unfold zGn at h0 ⊢
     split at h0
     ·cases h0
     ·split at h0
      ·cases h0
      ·rename_i h2 h3; rw [if_neg h2, if_neg h3]; exact ⟨rfl, by omega, by omega⟩
    obtain ⟨hx1, hx2, hx3⟩ := hx
    rw [hx1] at h1
    have hg2 : kB a (upP p) = some (jS x (lastL p).toNat 0 [m]) := by rw [<- h1]; exact jX n (upP p) _ x hg
    have hk : zBh (jS x (lastL p).toNat 0 [m]) (lastL p) = some m := by
     unfold zBh; rw [if_pos hx2]; exact zL0 (by omega)
    have hc : zJy (lastL p) (jS x (lastL p).toNat 0 [m]) = (x, 0) := by
     unfold zJy; rw [if_pos (zCy hk)]
     congr 1
     show NT.mk _ _ _ (spl (spl x.ks (lastL p).toNat 0 [m]) (lastL p).toNat 1 []) = x
     rw [zTr (by omega)]; exact NT.eta x
    constructor
    ·rw [zCe (zG2 _) hg2 (by rw [hc]), hc, <- h1, zEo n _ _ _ x hg, zG1 n _ x hg]
    ·have : kB a p = some m := by rw [zHv hp, hg2]; exact hk
     rw [kP this]
   ·rw [zHu (zBa _ _) hg h0] at h
    injection h with _ h2
    exact absurd h2 h0
theorem zHh {ks : List NT} {i : Nat} {m : NT} (_h : i <= ks.length) : sizeK (spl ks i 0 [m]) = sizeK ks + sizeT m := by
 unfold spl
 rw [kZ, kZ, Nat.add_zero]
 have : sizeK ks = sizeK (ks.take i) + sizeK (ks.drop i) := by rw [<- kZ, List.take_append_drop]
 simp only [sizeK]
 omega
theorem zFl {n a m : NT} {p : List Int} (h : zGo n p m = (a, 0)) : sizeT a = sizeT n + sizeT m /\ ∃ x, p.length ≠ 0 /\ kB n (upP p) = some x /\ kB a (upP p) = some (jS x (lastL p).toNat 0 [m]) /\ (jS x (lastL p).toNat 0 [m]).ks.length = x.ks.length + 1 := by
 unfold zGo at h
 split at h
 ·cases h
 ·rename_i hp
  cases hg : kB n (upP p) with
  | none => rw [zFq (zBa _ _) hg] at h; cases h
  | some x =>
   rcases Classical.em ((zGn (lastL p) m x).2 = 0) with h0 | h0
   ·rw [zCe (zBa _ _) hg h0] at h
    injection h with h1 _
    have hx : (zGn (lastL p) m x).1 = jS x (lastL p).toNat 0 [m] /\ 0 <= lastL p /\ lastL p <= x.ks.length := by
     unfold zGn at h0 ⊢
     split at h0
     ·cases h0
     ·split at h0
      ·cases h0
      ·rename_i h2 h3; rw [if_neg h2, if_neg h3]; exact ⟨rfl, by omega, by omega⟩
    obtain ⟨hx1, hx2, hx3⟩ := hx
    rw [hx1] at h1
    have h5 := zBo n (upP p) (jS x (lastL p).toNat 0 [m]) x hg
    rw [h1] at h5
    have h6 : sizeT (jS x (lastL p).toNat 0 [m]) = sizeT x + sizeT m := by
     rw [jC, jC x]
     show 1 + x.tx.length + sizeK (spl x.ks _ 0 [m]) = _
     rw [zHh (by omega)]; omega
    refine ⟨by omega, x, hp, rfl, by rw [<- h1]; exact jX n _ _ x hg, ?_⟩
    have := zM4 (ks := x.ks) (i := (lastL p).toNat) (many := 0) (o := [m]) (by omega)
    simp at this
    exact this
   ·rw [zHu (zBa _ _) hg h0] at h
    injection h with _ h2
    exact absurd h2 h0
end Go.Proofs.YtmkciabefepelaaGreat
namespace Go.Proofs.YtmkciabefepelaaGreat
theorem zL1 {l m : List Int} (h : l.length = m.length) (h2 : ∀ k, k < l.length -> iAt l k = iAt m k) : l = m := by
 apply List.ext_getElem h
 intro i h3 h4
 have := h2 i h3
 rwa [jY l i h3, jY m i h4] at this
theorem zIt {q p : List Int} {k : Nat} (hk : q.length = k + 1) : zX q p = 1 ↔ k < p.length /\ (∀ j, j < k -> iAt q j = iAt p j) /\ iAt q k < iAt p k := by
 rw [zIv, zEe]
 constructor
 ·rintro ⟨h1, h2, h3⟩
  have e : kO q p = k := by omega
  rw [e] at h2 h3
  exact ⟨h2, fun j hj => zGp q p j (by omega), h3⟩
 ·rintro ⟨h1, h2, h3⟩
  have e : kO q p = k := zEc q p k (by omega) (by omega) h2 (fun _ _ => by omega)
  rw [e]
  exact ⟨by omega, h1, h3⟩
theorem zE6 {q p : List Int} {k : Nat} (hk : q.length = k + 1) : zX q p ≠ 0 ↔ k < p.length /\ (∀ j, j < k -> iAt q j = iAt p j) /\ iAt q k <= iAt p k := by
 constructor
 ·intro h
  rcases zAt q p with ⟨h0, _⟩ | ⟨h0, _⟩ | ⟨h0, _⟩ | ⟨h0, _⟩
  ·have := (zIt hk).1 h0; exact ⟨this.1, this.2.1, by omega⟩
  ·have := zJg hk (.inl h0); exact ⟨this.1, fun j hj => this.2 j (by omega), by have := this.2 k (by omega); omega⟩
  ·have := zJg hk (.inr h0); exact ⟨this.1, fun j hj => this.2 j (by omega), by have := this.2 k (by omega); omega⟩
  ·exact absurd h0 h
 ·rintro ⟨h1, h2, h3⟩ h0
  have g1 : zX q p ≠ 1 := by omega
  have g2 : zX q p ≠ 2 := by omega
  have g3 : zX q p ≠ 3 := by omega
  rw [Ne, zIt hk] at g1
  have e : iAt q k = iAt p k := by
   rcases Int.lt_or_le (iAt q k) (iAt p k) with h | h
   ·exact absurd ⟨h1, h2, h⟩ g1
   ·omega
  have ea : ∀ j, j < k + 1 -> iAt q j = iAt p j := fun j hj => by
   rcases (show j < k ∨ j = k by omega) with h | rfl
   ·exact h2 j h
   ·exact e
  rcases (show k + 1 = p.length ∨ k + 1 < p.length by omega) with h | h
  ·rw [Ne, zCw] at g2
   exact g2 (zL1 (by omega) (fun j hj => ea j (by omega)))
  ·rw [Ne, zL6] at g3
   exact g3 ⟨by omega, fun j hj => ea j (by omega)⟩
theorem zF4 (q p : List Int) : zX q p = 0 ∨ zX q p = 1 ∨ zX q p = 2 ∨ zX q p = 3 := by
 rcases zAt q p with ⟨h, _⟩ | ⟨h, _⟩ | ⟨h, _⟩ | ⟨h, _⟩ <;> omega
theorem zOv (l : List Int) (k : Nat) (v : Int) : plusL l k [v] = addL l k v := rfl
theorem plus2 (l : List Int) (k : Nat) (v u : Int) : plusL l k [v, u] = addL (addL l k v) (k + 1) u := rfl
theorem zQs {q p : List Int} {k : Nat} (hk : q.length = k + 1) : jH 2 q 0 p = if zX q p = 0 then (p, true) else if zX q p = 1 then (addL p k (-1), true) else noR := by
 unfold jH; rw [if_neg (by omega), if_neg (by decide), if_pos rfl, hk]; rfl
theorem zHi (x : Int) (q : List Int) : zX (x :: q) [] = 0 := by
 rcases Classical.em (zX (x :: q) [] = 0) with h | h
 ·exact h
 ·have := ((zE6 (k := q.length) (by simp)).1 h).1
  simp at this
theorem zF5 (x : Int) (q : List Int) (y : Int) (p : List Int) (hq : q ≠ []) : zX (x :: q) (y :: p) = if x = y then zX q p else 0 := by
 obtain ⟨k, hk⟩ : ∃ k, q.length = k + 1 := ⟨q.length - 1, by have := List.length_pos_iff.2 hq; omega⟩
 by_cases e : x = y
 ·subst e
  rw [if_pos rfl]
  unfold zX
  have e1 : zFg (x :: q) (x :: p) = zFg q p := by
   unfold zFg; simp [kO, iAt]
  have e2 : zEd (x :: q) (x :: p) = zEd q p := by unfold zEd; simp
  rw [e1, e2, zIs]
 ·rw [if_neg e]
  rcases Classical.em (zX (x :: q) (y :: p) = 0) with h | h
  ·exact h
  ·have := ((zE6 (k := k + 1) (by simp [hk])).1 h).2.1 0 (by omega)
   simp [iAt] at this
   exact absurd this e
theorem zL2 (x y : Int) (p : List Int) : (zX [x] (y :: p) = 0 ↔ y < x) /\ (zX [x] (y :: p) = 1 ↔ x < y) := by
 have h1 := zE6 (q := [x]) (p := y :: p) (k := 0) rfl
 have h2 := zIt (q := [x]) (p := y :: p) (k := 0) rfl
 simp [iAt] at h1 h2
 exact ⟨⟨fun h => by omega, fun h => by omega⟩, h2⟩
theorem zJc {K pos : Int} {q p : List Int} (hK : K = 1 ∨ K = 2) : jH K q pos p = jH K q 0 p := by rcases hK with rfl | rfl <;> rfl
end Go.Proofs.YtmkciabefepelaaGreat
namespace Go.Proofs.YtmkciabefepelaaGreat
open Go.RowKit
theorem zSr {o : OpP} (h : kindB o.k = true) (h2 : fieldsO o = o) : zCx o = 0 := by
 rw [zL8, h, zSw h2]; rfl
theorem zB9.nodup {l : List Pr} (h : zB9 l) : l.Nodup := h.imp fun {p q} hpq e => hpq (by rw [e])
theorem kFc {r s : List Pr} (hr : zB9 r) (hs : zB9 s) (h : ∀ p, p ∈ r ↔ p ∈ s) : r.length = s.length :=
 ((List.perm_ext_iff_of_nodup hr.nodup hs.nodup).2 h).length_eq
theorem zUj {l : List Pr} (hl : zB9 l) {p q : Pr} (hp : p ∈ l) (hq : q ∈ l) (e : p.1 = q.1) : p = q := by
 have h1 := zDb hl hp
 have h2 := zDb hl hq
 rw [e, h2] at h1
 exact (Option.some.inj h1).symm
theorem Can.back {l old new : List Pr} (h : Can l old new) : Can (zA7 l old new) new old /\ zA7 (zA7 l old new) new old = l := by
 have hl := zBv h.l0
 have ho := zBv h.o0
 have hm : ∀ p, p ∈ zD1 (zA7 l old new) new ↔ p ∈ zD1 l old := by
  intro p
  rw [zC2, h.mem, zC2]
  constructor
  ·rintro ⟨h1 | h1, h2⟩
   ·exact h1
   ·exact absurd h1 h2
  ·intro h1
   exact ⟨Or.inl h1, fun h2 => h.free p ((zC2 l old p).2 h1) p h2 rfl⟩
 have hsplit : zB9 (zD1 l old ++ old) := by
  unfold zB9
  rw [List.pairwise_append]
  refine ⟨zD2 hl old, ho, fun p hp q hq e => ?_⟩
  obtain ⟨h1, h2⟩ := (zC2 l old p).1 hp
  exact h2 (by rw [zUj hl h1 (h.among q hq) e]; exact hq)
 have hall : ∀ p, p ∈ zD1 l old ++ old ↔ p ∈ l := by
  intro p
  rw [List.mem_append, zC2]
  constructor
  ·rintro (h1 | h1)
   ·exact h1.1
   ·exact h.among p h1
  ·intro h1
   by_cases h2 : p ∈ old
   ·exact Or.inr h2
   ·exact Or.inl ⟨h1, h2⟩
 have hlen := kFc (zD2 (zBv h.may) new) (zD2 hl old) hm
 have hlen2 := kFc hsplit hl hall
 rw [List.length_append] at hlen2
 have hc : Can (zA7 l old new) new old := {
  l0 := h.may
  o0 := h.n0
  n0 := h.o0
  among := fun p hp => (h.mem p).2 (Or.inr hp)
  free := fun p hp q hq e => by
   obtain ⟨h1, h2⟩ := (zC2 l old p).1 ((hm p).1 hp)
   exact h2 (by rw [zUj hl h1 (h.among q hq) e]; exact hq)
  room := by
   have := ((zC8 l).1 h.l0).1
   omega }
 refine ⟨hc, zEw (zGe _ hc.apart) ((zC8 l).1 h.l0).2.2 fun p => ?_⟩
 show p ∈ zA7 (zA7 l old new) new old ↔ p ∈ l
 rw [hc.mem, h.mem]
 constructor
 ·rintro (⟨h1 | h1, h2⟩ | h1)
  ·exact h1.1
  ·exact absurd h1 h2
  ·exact h.among p h1
 ·intro h1
  by_cases h2 : p ∈ old
  ·exact Or.inr h2
  ·exact Or.inl ⟨Or.inl ⟨h1, h2⟩, fun h3 => h.free p ((zC2 l old p).2 ⟨h1, h2⟩) p h3 rfl⟩
theorem zQt {l : List Int} (h : (jV l).2 = 0) (hm : lastL l <= 9223372036854775807) : zBg (jV l).1 = (l, 0) := by
 unfold jV at h ⊢
 by_cases h0 : l.length = 0
 ·rw [if_pos h0] at h; exact absurd h (by decide)
 rw [if_neg h0] at h ⊢
 by_cases h1 : lastL l <= 0
 ·rw [if_pos h1] at h; exact absurd h (by decide)
 rw [if_neg h1]
 show zBg (sib l (lastL l - 1)) = _
 unfold zBg
 rw [zH6, if_neg h0, zUh _ _ h0, if_neg (by omega), zYr, Int.sub_add_cancel, zUi]
theorem zQu {l : List Int} (h : (zBg l).2 = 0) (hp : 0 <= lastL l) : jV (zBg l).1 = (l, 0) := by
 unfold zBg at h ⊢
 by_cases h0 : l.length = 0
 ·rw [if_pos h0] at h; exact absurd h (by decide)
 rw [if_neg h0] at h ⊢
 by_cases h1 : lastL l = 9223372036854775807
 ·rw [if_pos h1] at h; exact absurd h (by decide)
 rw [if_neg h1]
 show jV (sib l (lastL l + 1)) = _
 unfold jV
 rw [zH6, if_neg h0, zUh _ _ h0, if_neg (by omega), zYr, Int.add_sub_cancel, zUi]
theorem kCm {l : List Int} (h : zJb l = 0) : 0 <= lastL l := by
 unfold lastL
 by_cases h0 : l.length = 0
 ·rw [List.eq_nil_of_length_eq_zero h0]; decide
 ·rw [jY l _ (by omega)]
  unfold zJb at h
  split at h
  ·rename_i h2
   exact of_decide_eq_true (List.all_eq_true.1 h2 _ (List.getElem_mem _))
  ·exact absurd h (by decide)
theorem kCn {l : List Int} (h : InI l) : lastL l <= 9223372036854775807 := by
 unfold lastL
 by_cases h0 : l.length = 0
 ·rw [List.eq_nil_of_length_eq_zero h0]; decide
 ·exact (h _ (by omega)).1
theorem zYs {a : OpP} (h : (zGl a).2 = 0) (hm : InI a.q) (hp : zJb a.q = 0) : zCx (zGl a).1 = 0 /\ zGl (zGl a).1 = (a, 0) := by
 unfold zGl at h
 by_cases hf : zCx a = 0
 case neg => rw [if_neg hf] at h; exact absurd h (by decide)
 rw [if_pos hf] at h
 have e : zGl a = zAp a := by unfold zGl; rw [if_pos hf]
 rw [e]
 suffices hs : zCx (zAp a).1 = 0 /\ zAp (zAp a).1 = (a, 0) by
  exact ⟨hs.1, by unfold zGl; rw [if_pos hs.1]; exact hs.2⟩
 obtain ⟨hk, hfl⟩ := zOy hf
 simp only [kindB, Bool.and_eq_true, decide_eq_true_iff] at hk
 have lp := kCm hp
 have lt := kCn hm
 clear hf e hp hm
 obtain ⟨k, q, t, z, n, o, w, x, f, g⟩ := a
 simp only at hk lp lt
 rcases zV0 hk.1 hk.2 with rfl | rfl | rfl | rfl | rfl | rfl | rfl | rfl | rfl <;> clear hk
 case inr.inr.inl =>
  simp only [zAp, if_true] at h ⊢
  have hb : (jV q).2 = 0 := by
   by_cases hb : (jV q).2 = 0
   ·exact hb
   ·rw [if_neg hb] at h; exact absurd h hb
  rw [if_pos hb]
  have hn := zQt hb lt
  refine ⟨zSr rfl ?_, ?_⟩
  ·simp [fieldsO, zeroO] at hfl ⊢
   simp only [@eq_comm _ zeroS, @eq_comm _ zeroT] at hfl
   simp [hfl]
  ·simp [hn]
 case inr.inr.inr.inl =>
  simp only [zAp] at h ⊢
  simp only [show ¬ (4 : Int) = 3 by decide, if_false, if_true] at h ⊢
  have hb : (zBg q).2 = 0 := by
   by_cases hb : (zBg q).2 = 0
   ·exact hb
   ·rw [if_neg hb] at h; exact absurd h hb
  rw [if_pos hb]
  have hn := zQu hb lp
  refine ⟨zSr rfl ?_, ?_⟩
  ·simp [fieldsO, zeroO] at hfl ⊢
   simp only [@eq_comm _ zeroS, @eq_comm _ zeroT] at hfl
   simp [hfl]
  ·simp [hn]
 all_goals
  refine ⟨zSr rfl ?_, by simp [zAp, zA0]⟩
  simp [fieldsO, zeroO, zAp, zA0] at hfl ⊢
  try simp only [@eq_comm _ zeroS, @eq_comm _ zeroT] at hfl
  simp [hfl]
end Go.Proofs.YtmkciabefepelaaGreat
namespace Go.Proofs.YtmkciabefepelaaGreat
theorem zKc {K pos n aff : Int} {q t : List Int} {p y : List Int × Int} (h : zEr K q t pos n aff p = (y, true)) : ∃ x, zDx aff /\ 0 <= p.2 /\ p.2 <= 1048576 /\ jF K q t pos p.1 = (x, true) /\ (if q = p.1 then zXx K q pos n aff x p.2 else ((x, p.2), true)) = (y, true) := by
 unfold zEr at h
 split at h
 ·rename_i hc
  obtain ⟨h1, h2, h3, h4⟩ := hc
  refine ⟨(jF K q t pos p.1).1, h1, h2, h3, Prod.ext rfl h4, h⟩
 ·cases h
theorem zAz {ks o : List NT} {i m j : Nat} (h : j < o.length) (hi : i <= ks.length) : (spl ks i m o)[i + j]? = o[j]? := by
 unfold spl
 have e : (ks.take i).length = i := by simp; omega
 rw [List.append_assoc, List.getElem?_append_right (by omega), e, show i + j - i = j by omega, List.getElem?_append_left h]
theorem zCj {ks o : List NT} {i m j : Nat} (hi : i + m <= ks.length) : (spl ks i m o)[i + o.length + j]? = ks[i + m + j]? := by
 unfold spl
 have e : (ks.take i).length = i := by simp; omega
 rw [List.append_assoc, List.getElem?_append_right (by omega), e, List.getElem?_append_right (by omega), show i + o.length + j - i - o.length = j by omega, List.getElem?_drop]
theorem kJw {n x m : NT} {u : List Int} {i : Nat} (hg : kB n u = some x) (hl : x.lf = false) (hi : i <= x.ks.length) : zGo n (u ++ [(i : Int)]) m = (putT n u (jS x i 0 [m]), 0) := by
 have e : zGn (i : Int) m x = (jS x i 0 [m], 0) := by
  unfold zGn
  rw [if_neg (by simp [hl]), if_neg (by omega)]
  rfl
 unfold zGo
 rw [if_neg (by simp), zOm, zC0, zCe (zBa _ _) hg (by rw [e]), e]
theorem zZi.whole {n x k : NT} {p u : List Int} {i : Nat} (h : zZi n p u i x k) : kB n p = some k := by
 rw [h.path, jJ, h.at_]
 show kB x [(i : Int)] = _
 rw [zR, zA9, h.kid]; rfl
theorem kFd {n x k : NT} {u : List Int} {i : Nat} (hg : kB n u = some x) (hk : x.ks[i]? = some k) : zBw n (u ++ [(i : Int)]) = (putT n u (jS x i 1 []), 0) /\ zE3 n (u ++ [(i : Int)]) = k := by
 have hb : zOf x (i : Int) = true := zCy (by rw [zA9]; exact hk)
 have e : zJy (i : Int) x = (jS x i 1 [], 0) := by unfold zJy; rw [if_pos hb]; rfl
 constructor
 ·unfold zBw
  rw [if_neg (by simp), zOm, zC0, zCe (zG2 _) hg (by rw [e]), e]
 ·unfold zE3
  have : kB n (u ++ [(i : Int)]) = some k := by
   rw [jJ, hg]
   show kB x [(i : Int)] = _
   rw [zR, zA9, hk]; rfl
  rw [if_neg (by simp), kP this]
theorem kJx {n x b k : NT} {o : OpP} {u : List Int} {i : Nat} (hp : o.q = u ++ [((i + 1 : Nat) : Int)]) (hg : kB n u = some x) (hb : x.ks[i]? = some b) (hk : x.ks[i + 1]? = some k) (hl : b.lf = k.lf) (hz : zG9 b = o.z) (ho : k.ps = o.o) : kBo n o = (putT n u (jS x i 2 [zAo b k]), 0) := by
 obtain ⟨hc, hm⟩ := kFd hg hk
 rw [<- hp] at hc hm
 have hbk : jV o.q = (u ++ [(i : Int)], 0) := by rw [hp]; exact zFy u i
 have hlen := (List.getElem?_eq_some_iff.1 hk).1
 have hg2 := jX n u (jS x (i + 1) 1 []) x hg
 have hsk : (jS x (i + 1) 1 []).ks[i]? = some b := by
  show (spl x.ks (i + 1) 1 [])[i]? = _
  rw [zBp (by omega) (by omega), hb]
 have hgb : kB (putT n u (jS x (i + 1) 1 [])) (u ++ [(i : Int)]) = some b := by
  rw [jJ, hg2]
  show kB (jS x (i + 1) 1 []) [(i : Int)] = _
  rw [zR, zA9, hsk]; rfl
 unfold kBo
 rw [hc, hbk, hm]
 dsimp only
 rw [if_neg (by simp), if_neg (by simp), kP hgb]
 unfold kLk
 rw [if_neg (by simp [hl]), if_neg (by simp [hz]), if_neg (by simp [ho]), zEz _ _ _ _ _ hg2, zEo _ _ _ _ _ hg, zSg hsk]
 congr 2
 show NT.mk _ _ _ (spl (spl x.ks (i + 1) 1 []) i 1 [_]) = NT.mk _ _ _ _
 rw [zX1 (by omega)]
 rfl
theorem kJy {n x k : NT} {o : OpP} {u : List Int} {i : Nat} (hm : x.ks.length < 9223372036854775807) (hp : o.q = u ++ [(i : Int)]) (hg : kB n u = some x) (hl : x.lf = false) (hk : x.ks[i]? = some k) (hw : chk o.w = 0) (h0 : 0 <= o.z) (h1 : o.z <= zG9 k) : kBp n o = (putT n u (jS x i 1 [jN k o.z.toNat, zA2 k o.z.toNat o.w]), 0) := by
 obtain ⟨hc, hcm⟩ := kFd hg hk
 have hlen := (List.getElem?_eq_some_iff.1 hk).1
 obtain ⟨e1, e2⟩ := zZj (h := jN k o.z.toNat) (t := zA2 k o.z.toNat o.w) hg hk
 unfold kBp
 rw [hp, hc, hcm, if_neg (by simp [hw])]
 dsimp only
 rw [if_neg (by simp)]
 unfold kLl
 rw [if_neg (by omega), hp, zLp u i (by omega), kJw e1 hl (by
  show i + 1 <= (spl x.ks i 1 [jN k o.z.toNat]).length
  have := zM4 (ks := x.ks) (i := i) (many := 1) (o := [jN k o.z.toNat]) (by omega)
  simp at this; omega), e2]
end Go.Proofs.YtmkciabefepelaaGreat
namespace Go.Proofs.YtmkciabefepelaaGreat
open Go.RowKit
theorem zJd (b k : NT) : sizeT (zAo b k) + 1 = sizeT b + sizeT k := by
 rw [jC (zAo b k), jC b, jC k]
 show 1 + (b.tx ++ k.tx).length + sizeK (b.ks ++ k.ks) + 1 = _
 rw [kZ, List.length_append]; omega
theorem zF6 (k : NT) (ps : List Pr) : sizeT (zEs k ps) = sizeT k := by rw [jC k]; simp only [zEs, sizeT]
theorem zDe (k : NT) (tx : List Int) : sizeT (zCz k tx) + k.tx.length = sizeT k + tx.length := by rw [jC k]; simp only [zCz, sizeT]; omega
theorem zHe {ks : List NT} {i : Nat} {k k' : NT} (h : ks[i]? = some k) (e : zAy k' = zAy k) : textK (ks.set i k') = textK ks := by
 obtain ⟨h1, h2⟩ := List.getElem?_eq_some_iff.1 h
 rw [List.set_eq_take_append_cons_drop, if_pos h1, jQ]
 have e2 : textK ks = textK (ks.take i) ++ textK (ks.drop i) := by rw [<- jQ, List.take_append_drop]
 rw [zCo h] at e2
 rw [e2]
 simp only [textK, e]
theorem zAs (n : NT) : zAy n = n.tx ++ textK n.ks := by cases n; simp only [zAy, NT.tx, NT.ks]
theorem zFi : ∀ (n : NT) (p : List Int) (m x : NT), kB n p = some x -> zAy m = zAy x -> zAy (putT n p m) = zAy n
 | n, [], m, x => fun h e => by injection h with h; rw [putT, h, e]
 | n, i :: r, m, x => by
  rw [zR]
  cases h : zBh n i with
  | none => intro h2; cases h2
  | some k =>
   intro h2 e
   simp only [putT, h]
   obtain ⟨k1, k2, k3⟩ := zA1 h
   rw [zAs (setK n i.toNat (putT k r m)), zAs n, zM5 (by omega), zHe k3 (zFi k r m x h2 e)]
   rfl
theorem zEm {n k : NT} {i : Nat} (h : zAh n = 0) (hk : n.ks[i]? = some k) : n.lf = false := by
 cases hl : n.lf
 ·rfl
 ·rw [((kY n).1 h).2.1 hl] at hk; simp at hk
theorem zE7 {x : NT} {i m : Nat} {o : List NT} (h : zAh x = 0) (hl : x.lf = false) (ho : ∀ k ∈ o, zAh k = 0) : zAh (jS x i m o) = 0 := by
 obtain ⟨h1, h2, h3, h4, h5⟩ := (kY x).1 h
 refine (kY _).2 ⟨h1, fun e => ?_, h3, h4, fun k hk => ?_⟩
 ·have e2 : x.lf = true := e
  rw [hl] at e2; cases e2
 ·have hk2 : k ∈ spl x.ks i m o := hk
  unfold spl at hk2
  rcases List.mem_append.1 hk2 with h6 | h6
  ·rcases List.mem_append.1 h6 with h7 | h7
   ·exact h5 k (List.mem_of_mem_take h7)
   ·exact ho k h7
  ·exact h5 k (List.mem_of_mem_drop h6)
theorem zIu : ∀ (n : NT) (p : List Int) (m x : NT), zAh n = 0 -> kB n p = some x -> zAh m = 0 -> zAh (putT n p m) = 0
 | n, [], m, x => fun _ _ h => h
 | n, i :: r, m, x => by
  rw [zR]
  cases hk : zBh n i with
  | none => intro _ h2; cases h2
  | some k =>
   intro h h2 hm
   simp only [putT, hk]
   have k3 := (zA1 hk).2.2
   exact zE7 h (zEm h k3) (fun y hy => by
    rw [List.mem_singleton] at hy; subst hy
    exact zIu k r m x (zAk h k3) h2 hm)
theorem zQv : ∀ (n : NT) (p : List Int) (m x : NT), kB n p = some x -> m.lf = x.lf -> (putT n p m).lf = n.lf
 | n, [], m, x => fun h e => by injection h with h; subst h; exact e
 | n, i :: r, m, x => by
  rw [zR]
  cases hk : zBh n i with
  | none => intro h2; cases h2
  | some k => intro _ _; simp only [putT, hk]; rfl
theorem zHj {tx : List Int} : zNh tx = 0 ↔ okR tx = true := by
 unfold zNh
 cases okR tx <;> simp
theorem zSs {b k : NT} (hb : zAh b = 0) (hk : zAh k = 0) (hl : b.lf = k.lf) : zAh (zAo b k) = 0 := by
 obtain ⟨b1, b2, b3, b4, b5⟩ := (kY b).1 hb
 obtain ⟨k1, k2, k3, k4, k5⟩ := (kY k).1 hk
 refine (kY _).2 ⟨b1, fun e => ?_, fun e => ?_, ?_, fun y hy => ?_⟩
 ·show b.ks ++ k.ks = []
  rw [b2 e, k2 (hl ▸ e)]; rfl
 ·show b.tx ++ k.tx = []
  rw [b3 e, k3 (hl ▸ e)]; rfl
 ·show zNh (b.tx ++ k.tx) = 0
  rw [zHj] at b4 k4 ⊢
  rw [zBq, b4, k4]; rfl
 ·rcases List.mem_append.1 (show y ∈ b.ks ++ k.ks from hy) with h | h
  ·exact b5 y h
  ·exact k5 y h
theorem zOw {k : NT} (hk : zAh k = 0) (i : Nat) : zAh (jN k i) = 0 := by
 obtain ⟨k1, k2, k3, k4, k5⟩ := (kY k).1 hk
 unfold jN
 by_cases h : k.lf = true
 ·rw [if_pos h]
  exact (kY _).2 ⟨k1, k2, fun e => absurd (show k.lf = false from e) (by simp [h]), by
   show zNh (k.tx.take i) = 0
   rw [zHj] at k4 ⊢
   exact zFj k4 i, k5⟩
 ·rw [if_neg h]
  exact (kY _).2 ⟨k1, fun e => absurd (show k.lf = true from e) h, k3, k4, fun y hy => k5 y (List.mem_of_mem_take hy)⟩
theorem zOx {k : NT} (hk : zAh k = 0) (i : Nat) {w : List Pr} (hw : chk w = 0) : zAh (zA2 k i w) = 0 := by
 obtain ⟨k1, k2, k3, k4, k5⟩ := (kY k).1 hk
 unfold zA2
 by_cases h : k.lf = true
 ·rw [if_pos h]
  exact (kY _).2 ⟨hw, fun _ => rfl, fun e => absurd (show k.lf = false from e) (by simp [h]), by
   show zNh (k.tx.drop i) = 0
   rw [zHj] at k4 ⊢
   exact zFk k4 i, fun y hy => absurd (show y ∈ ([] : List NT) from hy) (by simp)⟩
 ·rw [if_neg h]
  exact (kY _).2 ⟨hw, fun e => absurd (show k.lf = true from e) h, fun _ => rfl, rfl, fun y hy => k5 y (List.mem_of_mem_drop hy)⟩
theorem zL3 {k : NT} (hk : zAh k = 0) {ps : List Pr} (hp : chk ps = 0) : zAh (zEs k ps) = 0 := by
 obtain ⟨k1, k2, k3, k4, k5⟩ := (kY k).1 hk
 exact (kY _).2 ⟨hp, k2, k3, k4, k5⟩
theorem zHk {k : NT} (hk : zAh k = 0) (hl : k.lf = true) {tx : List Int} (hx : zNh tx = 0) : zAh (zCz k tx) = 0 := by
 obtain ⟨k1, k2, k3, k4, k5⟩ := (kY k).1 hk
 exact (kY _).2 ⟨k1, k2, fun e => absurd (show k.lf = false from e) (by simp [hl]), hx, k5⟩
end Go.Proofs.YtmkciabefepelaaGreat
