/- Where a node stands behind a change at one place of a tree, as a path's own move tells. -/
import Derived.Test.YtmkciabefepelaaGreatJKPtsWR
import Derived.Test.YtmkciabefepelaaGreatJOForm
set_option maxRecDepth 4000
namespace Go.Proofs.YtmkciabefepelaaGreat
open Go.RowKit
def zDm (u p : List Int) : Prop := ∃ j r, p = u ++ j :: r
theorem zF9 {a b : Int} {u p : List Int} : zDm (a :: u) (b :: p) ↔ a = b /\ zDm u p := by
 constructor
 ·rintro ⟨j, r, h⟩
  rw [List.cons_append] at h
  injection h with h1 h2
  exact ⟨h1.symm, j, r, h2⟩
 ·rintro ⟨rfl, j, r, rfl⟩
  exact ⟨j, r, rfl⟩
theorem zCh : ∀ (u : List Int) (i : Int) (p : List Int), ¬ zDm u p -> zX (u ++ [i]) p = 0
 | [], i, [], _ => zHi i []
 | [], i, y :: p, h => absurd ⟨y, p, rfl⟩ h
 | x :: u, i, [], _ => zHi x (u ++ [i])
 | x :: u, i, y :: p, h => by
  rw [List.cons_append, zF5 x (u ++ [i]) y p (by simp)]
  by_cases e : x = y
  ·rw [if_pos e]
   exact zCh u i p (fun h2 => h (zF9.2 ⟨e, h2⟩))
  ·rw [if_neg e]
theorem zAn : ∀ (u : List Int) (i j : Int) (r : List Int), zX (u ++ [i]) (u ++ j :: r) = if j < i then 0 else if i < j then 1 else if r = [] then 2 else 3
 | [], i, j, r => by
  obtain ⟨h1, h2⟩ := zL2 i j r
  rw [List.nil_append, List.nil_append]
  by_cases e1 : j < i
  ·rw [if_pos e1]; exact h1.2 e1
  rw [if_neg e1]
  by_cases e2 : i < j
  ·rw [if_pos e2]; exact h2.2 e2
  rw [if_neg e2]
  obtain rfl : i = j := by omega
  by_cases e3 : r = []
  ·subst e3
   rw [if_pos rfl]; exact zCw.2 rfl
  ·rw [if_neg e3]
   rcases zF4 [i] (i :: r) with h | h | h | h
   ·exact absurd (h1.1 h) e1
   ·exact absurd (h2.1 h) e2
   ·have := zCw.1 h
    injection this with _ h5
    exact absurd h5.symm e3
   ·exact h
 | x :: u, i, j, r => by
  rw [List.cons_append, List.cons_append, zF5 x (u ++ [i]) x (u ++ j :: r) (by simp), if_pos rfl]
  exact zAn u i j r
theorem zAv (u : List Int) (j v : Int) (r : List Int) : addL (u ++ j :: r) u.length v = u ++ (j + v) :: r := by
 unfold addL
 have e : iAt (u ++ j :: r) u.length = j := by
  rw [jY _ _ (by simp)]; simp
 rw [e, List.set_append_right _ _ (Nat.le_refl _), Nat.sub_self]; rfl
theorem zFb (u : List Int) (j l v : Int) (r : List Int) : addL (u ++ j :: l :: r) (u.length + 1) v = u ++ j :: (l + v) :: r := by
 have h := zAv (u ++ [j]) l v r
 rw [List.length_append, List.length_singleton] at h
 simpa using h
theorem zKl (u : List Int) (j l : Int) (r : List Int) : iAt (u ++ j :: l :: r) (u.length + 1) = l := by
 rw [jY _ _ (by simp)]
 rw [List.getElem_append_right (by omega)]
 simp
def kE (y y' : NT) : Prop := y'.lf = y.lf /\ y'.tx = y.tx
theorem kE.refl (y : NT) : kE y y := ⟨rfl, rfl⟩
theorem zAc {n x : NT} {u : List Int} (h : kB n u = some x) (j : Int) (r : List Int) : kB n (u ++ j :: r) = (zBh x j).bind fun k => kB k r := by
 rw [jJ, h]; show kB x (j :: r) = _; exact zR
theorem zDn : ∀ (n : NT) (u p : List Int) (x x' y : NT), kB n u = some x -> kE x x' -> kB n p = some y -> ¬ zDm u p -> ∃ y', kB (putT n u x') p = some y' /\ kE y y'
 | n, [], [], x, x', y => fun h1 h2 h3 _ => by
  injection h1 with h1
  injection h3 with h3
  subst h1
  subst h3
  exact ⟨x', rfl, h2⟩
 | n, [], j :: r, x, x', y => fun _ _ _ h => absurd ⟨j, r, rfl⟩ h
 | n, i :: u, [], x, x', y => fun h1 _ h3 _ => by
  rw [zR] at h1
  injection h3 with h3
  subst h3
  cases hk : zBh n i with
  | none => rw [hk] at h1; cases h1
  | some k => simp only [putT, hk]; exact ⟨_, rfl, rfl, rfl⟩
 | n, i :: u, j :: r, x, x', y => fun h1 h2 h3 h4 => by
  rw [zR] at h1 h3
  cases hk : zBh n i with
  | none => rw [hk] at h1; cases h1
  | some k =>
   rw [hk] at h1
   simp only [putT, hk]
   rw [zR]
   by_cases e : j = i
   ·subst e
    rw [hk] at h3
    rw [zIg (zCy hk)]
    exact zDn k u r x x' y h1 h2 h3 (fun h5 => h4 (zF9.2 ⟨rfl, h5⟩))
   ·rw [zF3 (zCy hk) e]
    exact ⟨y, h3, kE.refl y⟩
theorem zDa {x k : NT} {j : Int} (h : zBh x j = some k) : ∃ i : Nat, j = (i : Int) /\ x.ks[i]? = some k := by
 obtain ⟨h1, h2, h3⟩ := zA1 h
 exact ⟨j.toNat, by omega, h3⟩
theorem zAw {n x x' : NT} {u : List Int} (h : kB n u = some x) (j : Nat) (r : List Int) {k : NT} (hk : x'.ks[j]? = some k) : kB (putT n u x') (u ++ (j : Int) :: r) = kB k r := by
 rw [zAc (jX n u x' x h), zA9, hk]; rfl
theorem zJl {n x m y : NT} {u p : List Int} {i : Nat} (hg : kB n u = some x) (hi : i <= x.ks.length) (hy : kB n p = some y) :
  ∃ y', kB (putT n u (jS x i 0 [m])) (jH 1 (u ++ [(i : Int)]) 0 p).1 = some y' /\ kE y y' := by
 rw [kFe (q := u ++ [(i : Int)]) (k := u.length) (by simp)]
 by_cases hU : zDm u p
 ·obtain ⟨j, r, rfl⟩ := hU
  rw [zAc hg] at hy
  cases hk : zBh x j with
  | none => rw [hk] at hy; cases hy
  | some k =>
   rw [hk] at hy
   obtain ⟨jj, rfl, hkk⟩ := zDa hk
   rw [zAn]
   by_cases hlt : (jj : Int) < i
   ·rw [if_pos hlt, if_pos rfl]
    exact ⟨y, (zAw (x' := jS x i 0 [m]) hg jj r (show (spl x.ks i 0 [m])[jj]? = some k by rw [zBp (by omega) hi]; exact hkk)).trans hy, kE.refl y⟩
   ·rw [if_neg hlt, if_neg (by split <;> (try split) <;> omega), zAv]
    refine ⟨y, ?_, kE.refl y⟩
    have := zCj (ks := x.ks) (o := [m]) (i := i) (m := 0) (j := jj - i) (by omega)
    rw [show i + [m].length + (jj - i) = jj + 1 by simp; omega, show i + 0 + (jj - i) = jj by omega, hkk] at this
    exact (zAw (x' := jS x i 0 [m]) hg (jj + 1) r this).trans hy
 ·rw [zCh u i p hU, if_pos rfl]
  exact zDn n u p x _ y hg ⟨rfl, rfl⟩ hy hU
theorem zJm {n x y : NT} {u p p' : List Int} {i : Nat} (hg : kB n u = some x) (hi : i < x.ks.length) (hy : kB n p = some y) (hm : jH 2 (u ++ [(i : Int)]) 0 p = (p', true)) :
  ∃ y', kB (putT n u (jS x i 1 [])) p' = some y' /\ kE y y' := by
 rw [zQs (q := u ++ [(i : Int)]) (k := u.length) (by simp)] at hm
 by_cases hU : zDm u p
 ·obtain ⟨j, r, rfl⟩ := hU
  rw [zAc hg] at hy
  cases hk : zBh x j with
  | none => rw [hk] at hy; cases hy
  | some k =>
   rw [hk] at hy
   obtain ⟨jj, rfl, hkk⟩ := zDa hk
   rw [zAn] at hm
   by_cases hlt : (jj : Int) < i
   ·rw [if_pos hlt, if_pos rfl] at hm
    rw [<- (zO hm).1]
    exact ⟨y, (zAw (x' := jS x i 1 []) hg jj r (show (spl x.ks i 1 [])[jj]? = some k by rw [zBp (by omega) (by omega)]; exact hkk)).trans hy, kE.refl y⟩
   ·rw [if_neg hlt] at hm
    by_cases hgt : (i : Int) < jj
    ·rw [if_pos hgt, if_neg (by decide), if_pos rfl, zAv] at hm
     rw [<- (zO hm).1]
     refine ⟨y, ?_, kE.refl y⟩
     have := zCj (ks := x.ks) (o := []) (i := i) (m := 1) (j := jj - i - 1) (by omega)
     rw [show i + ([] : List NT).length + (jj - i - 1) = jj - 1 by simp; omega, show i + 1 + (jj - i - 1) = jj by omega, hkk] at this
     have h2 := (zAw (x' := jS x i 1 []) hg (jj - 1) r this).trans hy
     rw [show ((jj - 1 : Nat) : Int) = (jj : Int) + -1 by omega] at h2
     exact h2
    ·rw [if_neg hgt] at hm
     rw [if_neg (by split <;> decide), if_neg (by split <;> decide)] at hm
     exact absurd (zO hm).2 (by decide)
 ·rw [zCh u i p hU, if_pos rfl] at hm
  rw [<- (zO hm).1]
  exact zDn n u p x _ y hg ⟨rfl, rfl⟩ hy hU
theorem zGw (u : List Int) {i j : Int} (r : List Int) (h : j < i) : zX (u ++ [i]) (u ++ j :: r) = 0 := by rw [zAn, if_pos h]
theorem zJn (u : List Int) {i j : Int} (r : List Int) (h : i < j) : zX (u ++ [i]) (u ++ j :: r) = 1 := by rw [zAn, if_neg (by omega), if_pos h]
theorem zGa (u : List Int) (i : Int) : zX (u ++ [i]) (u ++ [i]) = 2 := zCw.2 rfl
theorem zGb (u : List Int) (i l : Int) (r : List Int) : zX (u ++ [i]) (u ++ i :: l :: r) = 3 := by rw [zAn, if_neg (by omega), if_neg (by omega), if_neg (by simp)]
theorem zO6 {n x b k m y : NT} {u p p' : List Int} {i : Nat} {z : Int} (hg : kB n u = some x) (hb : x.ks[i]? = some b) (hk : x.ks[i + 1]? = some k) (hmk : m.ks = b.ks ++ k.ks) (hz : k.ks ≠ [] -> z = b.ks.length) (hy : kB n p = some y) (hm : jH 3 (u ++ [((i + 1 : Nat) : Int)]) z p = (p', true)) :
  ∃ y', kB (putT n u (jS x i 2 [m])) p' = some y' /\ (if p = u ++ [(i : Int)] ∨ p = u ++ [((i + 1 : Nat) : Int)] then y' = m else kE y y') := by
 have hlen := (List.getElem?_eq_some_iff.1 hk).1
 have hmid : (spl x.ks i 2 [m])[i]? = some m := by
  have := zAz (ks := x.ks) (o := [m]) (i := i) (m := 2) (j := 0) (by simp) (by omega)
  simpa using this
 have hl : lastL (u ++ [((i + 1 : Nat) : Int)]) ≠ 0 := by rw [zC0]; omega
 have hm2 : (if zX (u ++ [((i + 1 : Nat) : Int)]) p = 0 then (p, true) else if zX (u ++ [((i + 1 : Nat) : Int)]) p = 3 then (addL (addL p u.length (-1)) (u.length + 1) z, true) else (addL p u.length (-1), true)) = (p', true) := by
  unfold jH at hm
  rw [if_neg (by simp), if_neg (by decide), if_neg (by decide), if_pos rfl, if_neg hl] at hm
  rw [List.length_append, List.length_singleton, Nat.add_sub_cancel, plus2, zOv] at hm
  exact hm
 clear hm
 by_cases hU : zDm u p
 case neg =>
  rw [zCh u _ p hU, if_pos rfl] at hm2
  rw [<- (zO hm2).1]
  obtain ⟨y', h1, h2⟩ := zDn n u p x (jS x i 2 [m]) y hg ⟨rfl, rfl⟩ hy hU
  refine ⟨y', h1, ?_⟩
  rw [if_neg (by rintro (rfl | rfl) <;> exact hU ⟨_, [], rfl⟩)]
  exact h2
 obtain ⟨j, r, rfl⟩ := hU
 rw [zAc hg] at hy
 cases hkk : zBh x j with
 | none => rw [hkk] at hy; cases hy
 | some c =>
  rw [hkk] at hy
  obtain ⟨jj, rfl, hc⟩ := zDa hkk
  have hyr : kB c r = some y := hy
  have hne : ∀ (a : Nat), (a : Int) ≠ jj -> u ++ (jj : Int) :: r ≠ u ++ [(a : Int)] := fun a ha e => by
   have := List.append_cancel_left e
   injection this with h1 _
   exact ha h1.symm
  rcases Nat.lt_trichotomy jj i with hlt | heq | hgt
  ·rw [zGw u r (by omega), if_pos rfl] at hm2
   rw [<- (zO hm2).1]
   refine ⟨y, (zAw (x' := jS x i 2 [m]) hg jj r (show (spl x.ks i 2 [m])[jj]? = some c by rw [zBp hlt (by omega)]; exact hc)).trans hyr, ?_⟩
   rw [if_neg (by rintro (e | e); exact hne i (by omega) e; exact hne (i + 1) (by omega) e)]
   exact kE.refl y
  ·subst heq
   obtain rfl : c = b := by rw [hb] at hc; injection hc with hc; exact hc.symm
   rw [zGw u r (by omega), if_pos rfl] at hm2
   rw [<- (zO hm2).1]
   cases r with
   | nil => exact ⟨m, zAw (x' := jS x jj 2 [m]) hg jj [] hmid, by rw [if_pos (.inl rfl)]⟩
   | cons l r' =>
    rw [zR] at hyr
    cases hl2 : zBh c l with
    | none => rw [hl2] at hyr; cases hyr
    | some q =>
     rw [hl2] at hyr
     obtain ⟨ll, rfl, hq⟩ := zDa hl2
     have hql := (List.getElem?_eq_some_iff.1 hq).1
     refine ⟨y, ?_, ?_⟩
     ·rw [zAw (x' := jS x jj 2 [m]) hg jj _ hmid, zR, zA9, hmk, List.getElem?_append_left hql, hq]
      exact hyr
     ·rw [if_neg (by rintro (e | e) <;> (have := List.append_cancel_left e; injection this with _ h2; cases h2))]
      exact kE.refl y
  ·by_cases heq : jj = i + 1
   ·subst heq
    obtain rfl : c = k := by rw [hk] at hc; injection hc with hc; exact hc.symm
    cases r with
    | nil =>
     rw [zGa, if_neg (by decide), if_neg (by decide), zAv] at hm2
     rw [<- (zO hm2).1, show ((i + 1 : Nat) : Int) + -1 = (i : Int) by omega]
     exact ⟨m, zAw (x' := jS x i 2 [m]) hg i [] hmid, by rw [if_pos (.inr rfl)]⟩
    | cons l r' =>
     rw [zGb, if_neg (by decide), if_pos rfl, zAv, show ((i + 1 : Nat) : Int) + -1 = (i : Int) by omega, zFb] at hm2
     rw [<- (zO hm2).1]
     rw [zR] at hyr
     cases hl2 : zBh c l with
     | none => rw [hl2] at hyr; cases hyr
     | some q =>
      rw [hl2] at hyr
      obtain ⟨ll, rfl, hq⟩ := zDa hl2
      have hz1 := hz (fun e => by rw [e] at hq; simp at hq)
      refine ⟨y, ?_, ?_⟩
      ·rw [zAw (x' := jS x i 2 [m]) hg i _ hmid, zR, show (ll : Int) + z = ((b.ks.length + ll : Nat) : Int) by omega, zA9, hmk, List.getElem?_append_right (by omega), show b.ks.length + ll - b.ks.length = ll by omega, hq]
       exact hyr
      ·rw [if_neg (by rintro (e | e) <;> (have := List.append_cancel_left e; injection this with _ h2; cases h2))]
       exact kE.refl y
   ·rw [zJn u r (by omega), if_neg (by decide), if_neg (by decide), zAv] at hm2
    rw [<- (zO hm2).1]
    have := zCj (ks := x.ks) (o := [m]) (i := i) (m := 2) (j := jj - i - 2) (by omega)
    rw [show i + [m].length + (jj - i - 2) = jj - 1 by simp; omega, show i + 2 + (jj - i - 2) = jj by omega, hc] at this
    have h2 := (zAw (x' := jS x i 2 [m]) hg (jj - 1) r this).trans hyr
    rw [show ((jj - 1 : Nat) : Int) = (jj : Int) + -1 by omega] at h2
    refine ⟨y, h2, ?_⟩
    rw [if_neg (by rintro (e | e); exact hne i (by omega) e; exact hne (i + 1) (by omega) e)]
    exact kE.refl y
theorem zO7 {n x k h t y : NT} {u p p' : List Int} {i : Nat} {z : Nat} (hg : kB n u = some x) (hk : x.ks[i]? = some k) (hh : h.ks = k.ks.take z) (ht : t.ks = k.ks.drop z) (hy : kB n p = some y) (hm : jH 4 (u ++ [(i : Int)]) (z : Int) p = (p', true)) :
  ∃ y', kB (putT n u (jS x i 1 [h, t])) p' = some y' /\ (if p = u ++ [(i : Int)] then y' = h else kE y y') := by
 have hlen := (List.getElem?_eq_some_iff.1 hk).1
 have hm1 : (spl x.ks i 1 [h, t])[i]? = some h := by
  have := zAz (ks := x.ks) (o := [h, t]) (i := i) (m := 1) (j := 0) (by simp) (by omega)
  simpa using this
 have hm2 : (spl x.ks i 1 [h, t])[i + 1]? = some t := by
  have := zAz (ks := x.ks) (o := [h, t]) (i := i) (m := 1) (j := 1) (by simp) (by omega)
  simpa using this
 have hm3 : (if zX (u ++ [(i : Int)]) p = 1 then (addL p u.length 1, true) else if zX (u ++ [(i : Int)]) p = 3 /\ (z : Int) <= iAt p (u.length + 1) then (addL (addL p u.length 1) (u.length + 1) (-(z : Int)), true) else (p, true)) = (p', true) := by
  unfold jH at hm
  rw [if_neg (by simp), if_neg (by decide), if_neg (by decide), if_neg (by decide), if_pos rfl] at hm
  rw [List.length_append, List.length_singleton, Nat.add_sub_cancel, plus2, zOv] at hm
  exact hm
 clear hm
 by_cases hU : zDm u p
 case neg =>
  rw [zCh u _ p hU, if_neg (by decide), if_neg (by simp)] at hm3
  rw [<- (zO hm3).1]
  obtain ⟨y', h1, h2⟩ := zDn n u p x (jS x i 1 [h, t]) y hg ⟨rfl, rfl⟩ hy hU
  refine ⟨y', h1, ?_⟩
  rw [if_neg (by rintro rfl; exact hU ⟨_, [], rfl⟩)]
  exact h2
 obtain ⟨j, r, rfl⟩ := hU
 rw [zAc hg] at hy
 cases hkk : zBh x j with
 | none => rw [hkk] at hy; cases hy
 | some c =>
  rw [hkk] at hy
  obtain ⟨jj, rfl, hc⟩ := zDa hkk
  have hyr : kB c r = some y := hy
  have hne : (i : Int) ≠ jj -> u ++ (jj : Int) :: r ≠ u ++ [(i : Int)] := fun ha e => by
   have := List.append_cancel_left e
   injection this with h1 _
   exact ha h1.symm
  rcases Nat.lt_trichotomy jj i with hlt | heq | hgt
  ·rw [zGw u r (by omega), if_neg (by decide), if_neg (by simp)] at hm3
   rw [<- (zO hm3).1]
   refine ⟨y, (zAw (x' := jS x i 1 [h, t]) hg jj r (show (spl x.ks i 1 [h, t])[jj]? = some c by rw [zBp hlt (by omega)]; exact hc)).trans hyr, ?_⟩
   rw [if_neg (hne (by omega))]
   exact kE.refl y
  ·subst heq
   obtain rfl : c = k := by rw [hk] at hc; injection hc with hc; exact hc.symm
   cases r with
   | nil =>
    rw [zGa, if_neg (by decide), if_neg (by simp)] at hm3
    rw [<- (zO hm3).1]
    exact ⟨h, zAw (x' := jS x jj 1 [h, t]) hg jj [] hm1, by rw [if_pos rfl]⟩
   | cons l r' =>
    rw [zGb, if_neg (by decide), zKl, zAv, zFb] at hm3
    rw [zR] at hyr
    cases hl2 : zBh c l with
    | none => rw [hl2] at hyr; cases hyr
    | some q =>
     rw [hl2] at hyr
     obtain ⟨ll, rfl, hq⟩ := zDa hl2
     have hnn : ¬ u ++ (jj : Int) :: (ll : Int) :: r' = u ++ [(jj : Int)] := by
      intro e; have := List.append_cancel_left e; injection this with _ h2; cases h2
     by_cases hzl : (z : Int) <= ll
     ·rw [if_pos ⟨rfl, hzl⟩] at hm3
      rw [<- (zO hm3).1]
      refine ⟨y, ?_, by rw [if_neg hnn]; exact kE.refl y⟩
      have h2 := zAw (x' := jS x jj 1 [h, t]) hg (jj + 1) ((((ll - z : Nat) : Nat) : Int) :: r') hm2
      rw [zR, zA9, ht, List.getElem?_drop, show z + (ll - z) = ll by omega, hq] at h2
      rw [show ((jj + 1 : Nat) : Int) = (jj : Int) + 1 by omega, show ((ll - z : Nat) : Int) = (ll : Int) + -(z : Int) by omega] at h2
      exact h2.trans hyr
     ·rw [if_neg (fun e => hzl e.2)] at hm3
      rw [<- (zO hm3).1]
      refine ⟨y, ?_, by rw [if_neg hnn]; exact kE.refl y⟩
      rw [zAw (x' := jS x jj 1 [h, t]) hg jj _ hm1, zR, zA9, hh, List.getElem?_take_of_lt (by omega), hq]
      exact hyr
  ·rw [zJn u r (by omega), if_pos rfl, zAv] at hm3
   rw [<- (zO hm3).1]
   have := zCj (ks := x.ks) (o := [h, t]) (i := i) (m := 1) (j := jj - i - 1) (by omega)
   rw [show i + [h, t].length + (jj - i - 1) = jj + 1 by simp; omega, show i + 1 + (jj - i - 1) = jj by omega, hc] at this
   refine ⟨y, (zAw (x' := jS x i 1 [h, t]) hg (jj + 1) r this).trans hyr, ?_⟩
   rw [if_neg (hne (by omega))]
   exact kE.refl y
theorem zGx {n k k' y : NT} {q p : List Int} (hg : kB n q = some k) (hks : k'.ks = k.ks) (_hl : k'.lf = k.lf) (hy : kB n p = some y) : ∃ y', kB (putT n q k') p = some y' /\ (if p = q then y' = k' else kE y y') := by
 by_cases e : p = q
 ·subst e
  exact ⟨k', jX n p k' k hg, by rw [if_pos rfl]⟩
 by_cases hU : zDm q p
 ·obtain ⟨j, r, rfl⟩ := hU
  refine ⟨y, ?_, by rw [if_neg e]; exact kE.refl y⟩
  rw [zAc (jX n q k' k hg)]
  rw [zAc hg] at hy
  unfold zBh at hy ⊢
  rw [hks]; exact hy
 ·simp only [e, if_false]
  by_cases hP : q <+: p
  ·obtain ⟨r, rfl⟩ := hP
   cases r with
   | nil => simp at e
   | cons j r => exact absurd ⟨j, r, rfl⟩ hU
  by_cases hP2 : p <+: q
  ·obtain ⟨r, rfl⟩ := hP2
   have hr : r ≠ [] := fun h => e (by rw [h]; simp)
   rw [jJ, hy] at hg
   rw [zEz n p r k' y hy]
   refine ⟨putT y r k', jX n p _ y hy, ?_⟩
   cases r with
   | nil => exact absurd rfl hr
   | cons j r =>
    have hg2 : kB y (j :: r) = some k := hg
    rw [zR] at hg2
    cases hk : zBh y j with
    | none => rw [hk] at hg2; cases hg2
    | some c => simp only [putT, hk]; exact ⟨rfl, rfl⟩
  ·exact ⟨y, (zHg n q p k' k hg hP hP2).trans hy, kE.refl y⟩
theorem jZ {n a : NT} {o : OpP} {f : List Int -> List Int × Int} (h : zP1 n o f = (a, 0)) : ∃ k, kB n o.q = some k /\ k.lf = true /\ (f k.tx).2 = 0 /\ a = putT n o.q (zCz k (f k.tx).1) := by
 unfold zP1 at h
 cases hg : kB n o.q with
 | none => rw [zB2 hg, if_pos (by decide)] at h; cases h
 | some k =>
  rw [kP hg, if_neg (by simp)] at h
  by_cases hl : k.lf = false
  ·rw [if_pos hl] at h; cases h
  rw [if_neg hl] at h
  unfold kI0 at h
  by_cases h0 : (f k.tx).2 = 0
  case neg => rw [if_pos h0] at h; exact absurd (zO h).2 h0
  rw [if_neg (by simp [h0])] at h
  exact ⟨k, rfl, by simpa using hl, h0, (zO h).1.symm⟩
theorem zCl {n a : NT} {o : OpP} (h : zVk n o = (a, 0)) : zBw n o.q = (a, 0) /\ zE3 n o.q = o.n := by
 unfold zVk at h
 by_cases h0 : (zBw n o.q).2 = 0
 case neg => rw [if_pos h0] at h; exact absurd (zO h).2 h0
 rw [if_neg (by simp [h0])] at h
 by_cases h1 : eqT (zE3 n o.q) o.n = true
 case neg => rw [if_neg h1] at h; cases h
 rw [if_pos h1] at h
 exact ⟨Prod.ext (zO h).1 h0, (zIw _ _).1 h1⟩
theorem zBz {n a : NT} {o : OpP} (h : zVl n o = (a, 0)) : (zBw n o.q).2 = 0 /\ zGo (zBw n o.q).1 o.t (zE3 n o.q) = (a, 0) := by
 unfold zVl at h
 by_cases h0 : (zBw n o.q).2 = 0
 case neg => rw [if_pos h0] at h; exact absurd (zO h).2 h0
 rw [if_neg (by simp [h0])] at h
 exact ⟨h0, h⟩
theorem zZn {r s l : List Int} {p : Int} (h : zFx r p s = (l, 0)) : okR l = true := by
 unfold zFx at h
 split at h
 ·rename_i hk
  rw [Bool.and_eq_true] at hk
  split at h
  ·rw [<- (zO h).1, zBq, zBq, zFj hk.1, zFk hk.1, hk.2]; rfl
  ·cases h
 ·cases h
theorem zZo {r s l : List Int} {p : Int} (h : zFe r p s = (l, 0)) : okR l = true := by
 unfold zFe at h
 split at h
 ·rename_i hk
  rw [Bool.and_eq_true] at hk
  split at h
  ·split at h
   ·rw [<- (zO h).1, zBq, zFj hk.1, zFk hk.1]; rfl
   ·cases h
  ·cases h
 ·cases h
def byO (o : OpP) : Int := if o.k = 1 then sizeT o.n else if o.k = 2 then -(sizeT o.n : Int) else if o.k = 3 then -1 else if o.k = 4 then 1 else if o.k = 7 then o.x.length else if o.k = 8 then -(o.x.length : Int) else 0
theorem kHb {o : OpP} (e : o.k = 1) : byO o = sizeT o.n := by unfold byO; rw [if_pos e]
theorem kHc {o : OpP} (e : o.k = 2) : byO o = -(sizeT o.n : Int) := by unfold byO; rw [if_neg (by omega), if_pos e]
theorem kHd {o : OpP} (e : o.k = 3) : byO o = -1 := by unfold byO; rw [if_neg (by omega), if_neg (by omega), if_pos e]
theorem kHe {o : OpP} (e : o.k = 4) : byO o = 1 := by unfold byO; rw [if_neg (by omega), if_neg (by omega), if_neg (by omega), if_pos e]
theorem kHf {o : OpP} (e : o.k = 7) : byO o = o.x.length := by unfold byO; rw [if_neg (by omega), if_neg (by omega), if_neg (by omega), if_neg (by omega), if_pos e]
theorem kHg {o : OpP} (e : o.k = 8) : byO o = -(o.x.length : Int) := by unfold byO; rw [if_neg (by omega), if_neg (by omega), if_neg (by omega), if_neg (by omega), if_neg (by omega), if_pos e]
theorem zXp {o : OpP} (e : o.k = 5 ∨ o.k = 6 ∨ o.k = 9) : byO o = 0 := by unfold byO; rw [if_neg (by omega), if_neg (by omega), if_neg (by omega), if_neg (by omega), if_neg (by omega), if_neg (by omega)]
theorem zMm {n a : NT} {o : OpP} (hm : ∀ u x, kB n u = some x -> x.ks.length < 9223372036854775807) (h1 : 1 <= o.k) (h8 : o.k <= 8) (h : doO n o = (a, 0)) : (sizeT a : Int) = sizeT n + byO o := by
 rcases zC7 h1 h8 h with ⟨e, h⟩ | ⟨e, h⟩ | ⟨e, h⟩ | ⟨e, h⟩ | ⟨e, h⟩ | ⟨e, h⟩ | ⟨e, h⟩ | ⟨e, h⟩
 ·have := (zFl (zCd h).2).1
  rw [kHb e]; omega
 ·obtain ⟨h2, h3⟩ := zCl h
  have := zFn (n := n) (p := o.q) (by rw [h2])
  rw [h2, h3] at this
  dsimp only at this
  rw [kHc e]; omega
 ·obtain ⟨u, i, x, b, k, hf⟩ := zC5 h
  have h2 := zGu hf.at_ i 2 [zAo b k]
  rw [zDi hf.b_ hf.k_, <- hf.eq] at h2
  have h3 := zJd b k
  simp only [sizeK] at h2
  rw [kHd e]; omega
 ·obtain ⟨u, i, x, k, hf⟩ := zCc hm h
  have h2 := zGu hf.at_ i 1 [jN k o.z.toNat, zA2 k o.z.toNat o.w]
  rw [zCk hf.kid, <- hf.eq] at h2
  have h3 := zGv k o.z.toNat o.w
  simp only [sizeK] at h2
  rw [kHe e]; omega
 ·obtain ⟨h2, h3⟩ := zBz h
  have h4 := zFn h2
  have h5 := (zFl h3).1
  rw [zXp (by omega)]; omega
 ·obtain ⟨k, hq, hg, hc, rfl⟩ := zC6 h
  have h2 := zBo n o.q (zEs k (zA7 k.ps o.o o.w)) k hg
  rw [zF6] at h2
  rw [zXp (by omega)]; omega
 ·obtain ⟨k, hg, hl, h0, rfl⟩ := jZ h
  have h2 := zBo n o.q (zCz k (zFx k.tx o.z o.x).1) k hg
  have h3 := zDe k (zFx k.tx o.z o.x).1
  have h4 := zKi (r := k.tx) (s := o.x) (p := o.z) (l := (zFx k.tx o.z o.x).1) (Prod.ext rfl h0)
  rw [kHf e]; omega
 ·obtain ⟨k, hg, hl, h0, rfl⟩ := jZ h
  have h2 := zBo n o.q (zCz k (zFe k.tx o.z o.x).1) k hg
  have h3 := zDe k (zFe k.tx o.z o.x).1
  have h4 := zKj (r := k.tx) (s := o.x) (p := o.z) (l := (zFe k.tx o.z o.x).1) (Prod.ext rfl h0)
  rw [kHg e]; omega
theorem zZp {n a : NT} {o : OpP} (hm : ∀ u x, kB n u = some x -> x.ks.length < 9223372036854775807) (hn : zAh n = 0) (hnl : n.lf = false) (h1 : 1 <= o.k) (h8 : o.k <= 8) (hon : o.k = 1 -> zAh o.n = 0) (h : doO n o = (a, 0)) : zAh a = 0 /\ a.lf = false := by
 have key : ∀ (u : List Int) (x m : NT), kB n u = some x -> zAh m = 0 -> m.lf = x.lf -> zAh (putT n u m) = 0 /\ (putT n u m).lf = false := fun u x m hg hc hl => ⟨zIu n u m x hn hg hc, by rw [zQv n u m x hg hl]; exact hnl⟩
 have keyA : ∀ {n a m : NT} {p : List Int}, zAh n = 0 -> n.lf = false -> zAh m = 0 -> zGo n p m = (a, 0) -> zAh a = 0 /\ a.lf = false := fun {n a m p} hn hnl hc h => by
  obtain ⟨u, i, x, hf⟩ := zD7 h
  rw [hf.eq]
  exact ⟨zIu n u _ x hn hf.at_ (zE7 (zA6 n u x hn hf.at_) hf.elem (fun y hy => by rw [List.mem_singleton] at hy; subst hy; exact hc)), by rw [zQv n u (jS x i 0 [m]) x hf.at_ rfl]; exact hnl⟩
 have keyC : ∀ {p : List Int}, (zBw n p).2 = 0 -> zAh (zBw n p).1 = 0 /\ (zBw n p).1.lf = false /\ zAh (zE3 n p) = 0 := fun {p} h => by
  obtain ⟨u, i, x, k, hf⟩ := zBn h
  have hx := zA6 n u x hn hf.at_
  have h2 := key u x (jS x i 1 []) hf.at_ (zE7 hx (zEm hx hf.kid) (fun y hy => by simp at hy)) rfl
  rw [hf.eq, hf.got]
  exact ⟨h2.1, h2.2, zAk hx hf.kid⟩
 rcases zC7 h1 h8 h with ⟨e, h⟩ | ⟨e, h⟩ | ⟨e, h⟩ | ⟨e, h⟩ | ⟨e, h⟩ | ⟨e, h⟩ | ⟨e, h⟩ | ⟨e, h⟩
 ·exact keyA hn hnl (hon e) (zCd h).2
 ·obtain ⟨h2, h3⟩ := zCl h
  have := keyC (p := o.q) (by rw [h2])
  rw [h2] at this
  exact ⟨this.1, this.2.1⟩
 ·obtain ⟨u, i, x, b, k, hf⟩ := zC5 h
  have hx := zA6 n u x hn hf.at_
  rw [hf.eq]
  exact key u x _ hf.at_ (zE7 hx (zEm hx hf.b_) (fun y hy => by rw [List.mem_singleton] at hy; subst hy; exact zSs (zAk hx hf.b_) (zAk hx hf.k_) hf.leaf)) rfl
 ·obtain ⟨u, i, x, k, hf⟩ := zCc hm h
  have hx := zA6 n u x hn hf.at_
  rw [hf.eq]
  exact key u x _ hf.at_ (zE7 hx hf.elem (fun y hy => by
   simp only [List.mem_cons, List.not_mem_nil, or_false] at hy
   rcases hy with rfl | rfl
   ·exact zOw (zAk hx hf.kid) _
   ·exact zOx (zAk hx hf.kid) _ hf.new)) rfl
 ·obtain ⟨h2, h3⟩ := zBz h
  obtain ⟨c1, c2, c3⟩ := keyC h2
  exact keyA c1 c2 c3 h3
 ·obtain ⟨k, hq, hg, hc, rfl⟩ := zC6 h
  exact key o.q k _ hg (zL3 (zA6 n _ k hn hg) hc.may) rfl
 ·obtain ⟨k, hg, hl, h0, rfl⟩ := jZ h
  exact key o.q k _ hg (zHk (zA6 n _ k hn hg) hl (zHj.2 (zZn (r := k.tx) (s := o.x) (p := o.z) (Prod.ext rfl h0)))) rfl
 ·obtain ⟨k, hg, hl, h0, rfl⟩ := jZ h
  exact key o.q k _ hg (zHk (zA6 n _ k hn hg) hl (zHj.2 (zZo (r := k.tx) (s := o.x) (p := o.z) (Prod.ext rfl h0)))) rfl
theorem zLj {k : NT} (hk : zAh k = 0) {z : Int} (h0 : 0 <= z) (h1 : z <= zG9 k) (w : List Pr) : zG9 (jN k z.toNat) = z /\ (jN k z.toNat).lf = (zA2 k z.toNat w).lf /\ (zA2 k z.toNat w).ps = w := by
 obtain ⟨k1, k2⟩ := kX hk
 obtain ⟨lf, ps, tx, ks⟩ := k
 simp only [NT.lf, NT.tx, NT.ks] at k1 k2
 unfold zG9 at h1
 simp only [NT.tx, NT.ks] at h1
 unfold jN zA2 zG9
 simp only [NT.lf, NT.ps, NT.tx, NT.ks]
 cases lf
 ·rw [k2 rfl] at h1 ⊢
  simp only [List.length_nil] at h1
  simp; omega
 ·rw [k1 rfl] at h1 ⊢
  simp only [List.length_nil] at h1
  simp; omega
end Go.Proofs.YtmkciabefepelaaGreat
