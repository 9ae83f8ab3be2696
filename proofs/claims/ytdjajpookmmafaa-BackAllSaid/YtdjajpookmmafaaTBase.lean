/- Trees by paths: the node at a path, another one in its place, one put in, one cut out; plain functions and facts, no program is named here. A node that a call builds: its variable, its row of Kids, one kid more, and what it is in the end. The document's Copy: a tree of its own, its row its own. -/
import Derived.Test.YtdjajpookmmafaaNTops
import Derived.Test.YtdjajpookmmafaaIBase
import Derived.Test.YtdjajpookmmafaaNCopy
namespace Go.Proofs.Ytdjajpookmmafaa
open Go.RowKit

def zeroT : NT := .mk false [] [] []
/-- Is there a kid of that number, and it. -/
def hasB (n : NT) (i : Int) : Bool := decide (0 ≤ i) && decide (i < n.ks.length)
def kidT (n : NT) (i : Int) : Option NT := if 0 ≤ i then n.ks[i.toNat]? else none
set_option maxRecDepth 4000 in
theorem hasB_iff {n : NT} {i : Int} : hasB n i = true ↔ 0 ≤ i ∧ i < n.ks.length := by unfold hasB; simp
set_option maxRecDepth 4000 in
theorem kid_some {n : NT} {i : Int} (h : hasB n i = true) : ∃ k, kidT n i = some k := by
  rw [hasB_iff] at h
  unfold kidT; rw [if_pos h.1]
  exact ⟨_, List.getElem?_eq_getElem (by omega)⟩
set_option maxRecDepth 4000 in
theorem kid_has {n k : NT} {i : Int} (h : kidT n i = some k) : 0 ≤ i ∧ i < n.ks.length ∧ n.ks[i.toNat]? = some k := by
  unfold kidT at h
  split at h
  · have := (List.getElem?_eq_some_iff.1 h).1
    exact ⟨by assumption, by omega, h⟩
  · cases h
set_option maxRecDepth 4000 in
theorem kid_yes {n k : NT} {i : Int} (h : kidT n i = some k) : hasB n i = true := by
  have := kid_has h; rw [hasB_iff]; exact ⟨this.1, this.2.1⟩
set_option maxRecDepth 4000 in
theorem kid_none {n : NT} {i : Int} (h : hasB n i = false) : kidT n i = none := by
  cases hk : kidT n i with
  | none => rfl
  | some k => rw [kid_yes hk] at h; cases h
set_option maxRecDepth 4000 in
theorem kid_no {n : NT} {i : Int} (h : kidT n i = none) : hasB n i = false := by
  cases hb : hasB n i
  · rfl
  · obtain ⟨k, hk⟩ := kid_some hb; rw [hk] at h; cases h

/-- A list with others in the place of so many from i on. -/
def spl (ks : List NT) (i many : Nat) (o : List NT) : List NT := ks.take i ++ o ++ ks.drop (i + many)
def splT (n : NT) (i many : Nat) (o : List NT) : NT := .mk n.lf n.ps n.tx (spl n.ks i many o)
set_option maxRecDepth 4000 in
theorem spl_len {ks : List NT} {i many : Nat} {o : List NT} (h : i + many ≤ ks.length) : (spl ks i many o).length + many = ks.length + o.length := by
  unfold spl; simp only [List.length_append, List.length_take, List.length_drop]; omega
set_option maxRecDepth 4000 in
theorem spl_one {ks : List NT} {i : Nat} {k : NT} (h : i < ks.length) : spl ks i 1 [k] = ks.set i k := by
  unfold spl; rw [List.set_eq_take_append_cons_drop, if_pos h]; simp
/-- n with another kid. -/
def setK (n : NT) (i : Nat) (k : NT) : NT := splT n i 1 [k]

/-- The node at a path. -/
def getO : NT → List Int → Option NT
  | n, [] => some n
  | n, i :: r => match kidT n i with
    | none => none
    | some k => getO k r
def getE (n : NT) (p : List Int) : NT × Int := match getO n p with
  | none => (zeroT, 5)
  | some m => (m, 0)
/-- Another node there. -/
def putT : NT → List Int → NT → NT
  | _, [], m => m
  | n, i :: r, m => match kidT n i with
    | none => n
    | some k => setK n i.toNat (putT k r m)
/-- What f makes of the node there. -/
def chgT (f : NT → NT × Int) : NT → List Int → NT × Int
  | n, [] => f n
  | n, i :: r => match kidT n i with
    | none => (zeroT, 5)
    | some k => if (chgT f k r).2 = 0 then (setK n i.toNat (chgT f k r).1, 0) else (zeroT, (chgT f k r).2)
def putF (m : NT) (_ : NT) : NT × Int := (m, 0)
def addF (i : Int) (m n : NT) : NT × Int := if n.lf = true then (zeroT, 7) else if i < 0 ∨ n.ks.length < i then (zeroT, 8) else (splT n i.toNat 0 [m], 0)
def cutF (i : Int) (n : NT) : NT × Int := if hasB n i = true then (splT n i.toNat 1 [], 0) else (zeroT, 5)
/-- p's parent. -/
def upP (p : List Int) : List Int := p.take (p.length - 1)
def putE (n : NT) (p : List Int) (m : NT) : NT × Int := chgT (putF m) n p
def addE (n : NT) (p : List Int) (m : NT) : NT × Int := if p.length = 0 then (zeroT, 6) else chgT (addF (lastL p) m) n (upP p)
def cutE (n : NT) (p : List Int) : NT × Int := if p.length = 0 then (zeroT, 6) else chgT (cutF (lastL p)) n (upP p)
def cutM (n : NT) (p : List Int) : NT := if p.length = 0 then zeroT else (getE n p).1

set_option maxRecDepth 4000 in
theorem getO_cons {n : NT} {i : Int} {r : List Int} : getO n (i :: r) = (kidT n i).bind fun k => getO k r := by
  rw [getO]; cases kidT n i <;> rfl
set_option maxRecDepth 4000 in
theorem getO_append : ∀ (n : NT) (p q : List Int), getO n (p ++ q) = (getO n p).bind fun m => getO m q
  | n, [], q => rfl
  | n, i :: r, q => by
    rw [List.cons_append, getO_cons, getO_cons]
    cases h : kidT n i with
    | none => rfl
    | some k => exact getO_append k r q
set_option maxRecDepth 4000 in
theorem getO_take_step {n m : NT} {p : List Int} {k : Nat} (hk : k < p.length) (h : getO n (p.take k) = some m) : getO n (p.take (k + 1)) = kidT m (iAt p k) := by
  rw [List.take_add_one, List.getElem?_eq_getElem hk, getO_append, h, iAt_eq p k hk]
  show getO m [p[k]] = _
  rw [getO_cons]
  cases kidT m p[k] <;> rfl
set_option maxRecDepth 4000 in
theorem getO_stop {n m : NT} {p : List Int} {k : Nat} (hk : k < p.length) (h : getO n (p.take k) = some m) (hn : kidT m (iAt p k) = none) : getO n p = none := by
  rw [← List.take_append_drop (k + 1) p, getO_append, getO_take_step hk h, hn]; rfl
set_option maxRecDepth 4000 in
theorem getE_none {n : NT} {p : List Int} (h : getO n p = none) : getE n p = (zeroT, 5) := by unfold getE; rw [h]
set_option maxRecDepth 4000 in
theorem getE_some {n m : NT} {p : List Int} (h : getO n p = some m) : getE n p = (m, 0) := by unfold getE; rw [h]

set_option maxRecDepth 4000 in
theorem setK_kid {n k : NT} {i : Int} (h : hasB n i = true) : kidT (setK n i.toNat k) i = some k := by
  rw [hasB_iff] at h
  unfold kidT setK splT
  rw [if_pos h.1]
  show (spl n.ks i.toNat 1 [k])[i.toNat]? = _
  rw [spl_one (by omega), List.getElem?_set_self (by omega)]
set_option maxRecDepth 4000 in
theorem setK_other {n k : NT} {i j : Int} (h : hasB n i = true) (hj : j ≠ i) : kidT (setK n i.toNat k) j = kidT n j := by
  rw [hasB_iff] at h
  unfold kidT setK splT
  split
  · show (spl n.ks i.toNat 1 [k])[j.toNat]? = _
    rw [spl_one (by omega), List.getElem?_set_ne (by omega)]
  · rfl
set_option maxRecDepth 4000 in
theorem setK_ks {n k : NT} {i : Nat} (h : i < n.ks.length) : (setK n i k).ks = n.ks.set i k := spl_one h
set_option maxRecDepth 4000 in
theorem setK_setK {n k k' : NT} {i : Nat} (h : i < n.ks.length) : setK (setK n i k) i k' = setK n i k' := by
  have e : (setK n i k).ks = n.ks.set i k := setK_ks h
  show NT.mk _ _ _ (spl (setK n i k).ks i 1 [k']) = NT.mk _ _ _ (spl n.ks i 1 [k'])
  rw [e, spl_one (by simpa using h), spl_one h, List.set_set]; rfl
set_option maxRecDepth 4000 in
theorem setK_self {n k : NT} {i : Nat} (h : n.ks[i]? = some k) : setK n i k = n := by
  obtain ⟨h1, h2⟩ := List.getElem?_eq_some_iff.1 h
  show NT.mk _ _ _ (spl n.ks i 1 [k]) = n
  rw [spl_one h1, ← h2, List.set_getElem_self, NT.eta]
set_option maxRecDepth 4000 in
theorem setK_hasB {n k : NT} {i : Nat} {j : Int} (h : i < n.ks.length) : hasB (setK n i k) j = hasB n j := by
  unfold hasB; rw [setK_ks h, List.length_set]

set_option maxRecDepth 4000 in
theorem get_put : ∀ (n : NT) (p : List Int) (m x : NT), getO n p = some x → getO (putT n p m) p = some m
  | n, [], m, x => fun _ => rfl
  | n, i :: r, m, x => by
    rw [getO_cons, putT]
    cases h : kidT n i with
    | none => intro h2; cases h2
    | some k =>
      intro h2
      show getO (setK n i.toNat (putT k r m)) (i :: r) = _
      rw [getO_cons, setK_kid (kid_yes h)]
      exact get_put k r m x h2
set_option maxRecDepth 4000 in
theorem put_put : ∀ (n : NT) (p : List Int) (m m' x : NT), getO n p = some x → putT (putT n p m) p m' = putT n p m'
  | n, [], m, m', x => fun _ => rfl
  | n, i :: r, m, m', x => by
    rw [getO_cons]
    cases h : kidT n i with
    | none => intro h2; cases h2
    | some k =>
      intro h2
      have h3 := kid_has h
      simp only [putT, h, setK_kid (kid_yes h)]
      rw [setK_setK (by omega), put_put k r m m' x h2]
set_option maxRecDepth 4000 in
theorem put_get : ∀ (n : NT) (p : List Int) (x : NT), getO n p = some x → putT n p x = n
  | n, [], x => fun h => by injection h with h; rw [putT, h]
  | n, i :: r, x => by
    rw [getO_cons]
    cases h : kidT n i with
    | none => intro h2; cases h2
    | some k =>
      intro h2
      simp only [putT, h]
      rw [put_get k r x h2, setK_self (kid_has h).2.2]
set_option maxRecDepth 4000 in
/-- Paths apart: neither is the other one's beginning. -/
theorem get_aside : ∀ (n : NT) (p q : List Int) (m x : NT), getO n p = some x → ¬ p <+: q → ¬ q <+: p → getO (putT n p m) q = getO n q
  | n, [], q, m, x => fun _ h _ => absurd (List.nil_prefix) h
  | n, i :: r, [], m, x => fun _ _ h => absurd (List.nil_prefix) h
  | n, i :: r, j :: s, m, x => by
    intro h0 h1 h2
    rw [getO_cons] at h0
    cases h : kidT n i with
    | none => rw [h] at h0; cases h0
    | some k =>
      rw [h] at h0
      simp only [putT, h]
      rw [getO_cons, getO_cons]
      rcases Classical.em (j = i) with e | e
      · subst e
        rw [setK_kid (kid_yes h), h]
        refine get_aside k r s m x h0 (fun h3 => h1 ?_) (fun h3 => h2 ?_)
        · exact (List.cons_prefix_cons).2 ⟨rfl, h3⟩
        · exact (List.cons_prefix_cons).2 ⟨rfl, h3⟩
      · rw [setK_other (kid_yes h) e]

set_option maxRecDepth 4000 in
theorem chg_eq {f : NT → NT × Int} (hf : ∀ a, (f a).2 ≠ 0 → (f a).1 = zeroT) : ∀ (n : NT) (p : List Int), chgT f n p = match getO n p with
    | none => (zeroT, 5)
    | some a => if (f a).2 = 0 then (putT n p (f a).1, 0) else (zeroT, (f a).2)
  | n, [] => by
    show f n = if (f n).2 = 0 then ((f n).1, 0) else (zeroT, (f n).2)
    split
    · rename_i h; rw [← h]
    · rename_i h; rw [← hf n h]
  | n, i :: r => by
    rw [getO_cons, chgT]
    cases h : kidT n i with
    | none => rfl
    | some k =>
      have ih := chg_eq hf k r
      have hp : ∀ m, putT n (i :: r) m = setK n i.toNat (putT k r m) := fun m => by simp only [putT, h]
      simp only [hp, ih, Option.bind_some]
      cases getO k r with
      | none => rfl
      | some a =>
        simp only
        rcases Classical.em ((f a).2 = 0) with h2 | h2
        · simp only [h2, if_true]
        · simp only [h2, if_false]
set_option maxRecDepth 4000 in
theorem putF_ok (m : NT) : ∀ a, (putF m a).2 ≠ 0 → (putF m a).1 = zeroT := fun _ h => absurd rfl h
set_option maxRecDepth 4000 in
theorem addF_ok (i : Int) (m : NT) : ∀ a, (addF i m a).2 ≠ 0 → (addF i m a).1 = zeroT := fun a h => by
  unfold addF at h ⊢
  split
  · rfl
  · split
    · rfl
    · rename_i h1 h2; rw [if_neg h1, if_neg h2] at h; exact absurd rfl h
set_option maxRecDepth 4000 in
theorem cutF_ok (i : Int) : ∀ a, (cutF i a).2 ≠ 0 → (cutF i a).1 = zeroT := fun a h => by
  unfold cutF at h ⊢
  split
  · rename_i h1; rw [if_pos h1] at h; exact absurd rfl h
  · rfl
set_option maxRecDepth 4000 in
theorem chg_some {f : NT → NT × Int} (hf : ∀ a, (f a).2 ≠ 0 → (f a).1 = zeroT) {n a : NT} {p : List Int} (h : getO n p = some a) (h0 : (f a).2 = 0) : chgT f n p = (putT n p (f a).1, 0) := by
  rw [chg_eq hf, h]; simp only; rw [if_pos h0]
set_option maxRecDepth 4000 in
theorem chg_err {f : NT → NT × Int} (hf : ∀ a, (f a).2 ≠ 0 → (f a).1 = zeroT) {n a : NT} {p : List Int} (h : getO n p = some a) (h0 : (f a).2 ≠ 0) : chgT f n p = (zeroT, (f a).2) := by
  rw [chg_eq hf, h]; simp only; rw [if_neg h0]
set_option maxRecDepth 4000 in
theorem chg_none {f : NT → NT × Int} (hf : ∀ a, (f a).2 ≠ 0 → (f a).1 = zeroT) {n : NT} {p : List Int} (h : getO n p = none) : chgT f n p = (zeroT, 5) := by
  rw [chg_eq hf, h]
set_option maxRecDepth 4000 in
theorem putE_eq (n : NT) (p : List Int) (m : NT) : putE n p m = match getO n p with
    | none => (zeroT, 5)
    | some _ => (putT n p m, 0) := by
  unfold putE; rw [chg_eq (putF_ok m)]; cases getO n p <;> rfl
set_option maxRecDepth 4000 in
theorem last_append {p : List Int} (h : p.length ≠ 0) : upP p ++ [lastL p] = p := by
  unfold upP lastL
  rw [iAt_eq p _ (by omega)]
  have := List.take_append_getElem (l := p) (i := p.length - 1) (by omega)
  rw [this]
  rw [show p.length - 1 + 1 = p.length by omega, List.take_length]
set_option maxRecDepth 4000 in
theorem getO_up {n : NT} {p : List Int} (h : p.length ≠ 0) : getO n p = (getO n (upP p)).bind fun a => kidT a (lastL p) := by
  conv => lhs; rw [← last_append h]
  rw [getO_append]
  congr 1
  funext a
  rw [getO_cons]
  cases kidT a (lastL p) <;> rfl

set_option maxRecDepth 4000 in
theorem spl_spl {ks : List NT} {i : Nat} {m : NT} (h : i ≤ ks.length) : spl (spl ks i 0 [m]) i 1 [] = ks := by
  unfold spl
  have e : (ks.take i).length = i := by rw [List.length_take]; omega
  rw [Nat.add_zero, List.append_nil, List.append_assoc]
  rw [List.take_append_of_le_length (by omega), List.take_of_length_le (by omega)]
  rw [List.drop_append, e, List.drop_of_length_le (by omega), List.nil_append, show i + 1 - i = 1 by omega]
  simp
set_option maxRecDepth 4000 in
theorem spl_back {ks : List NT} {i : Nat} {k : NT} (h : ks[i]? = some k) : spl (spl ks i 1 []) i 0 [k] = ks := by
  obtain ⟨h1, h2⟩ := List.getElem?_eq_some_iff.1 h
  unfold spl
  have e : (ks.take i).length = i := by rw [List.length_take]; omega
  simp only [Nat.add_zero, List.append_nil]
  rw [List.take_append_of_le_length (by omega), List.take_of_length_le (by omega)]
  rw [List.drop_append, e, List.drop_of_length_le (by omega), List.nil_append, Nat.sub_self, List.drop_zero]
  rw [List.append_assoc, List.singleton_append, ← h2, ← List.drop_eq_getElem_cons h1, List.take_append_drop]
set_option maxRecDepth 4000 in
theorem spl_mid {ks : List NT} {i : Nat} {m : NT} (h : i ≤ ks.length) : (spl ks i 0 [m])[i]? = some m := by
  unfold spl
  have e : (ks.take i).length = i := by rw [List.length_take]; omega
  rw [Nat.add_zero, List.append_assoc, List.getElem?_append_right (by omega), e, Nat.sub_self]
  rfl

set_option maxRecDepth 4000 in
/-- What was added is cut out again. -/
theorem add_cut {n a m : NT} {p : List Int} (h : addE n p m = (a, 0)) : cutE a p = (n, 0) ∧ cutM a p = m := by
  unfold addE at h
  split at h
  · cases h
  · rename_i hp
    unfold cutE cutM
    rw [if_neg hp, if_neg hp]
    cases hg : getO n (upP p) with
    | none => rw [chg_none (addF_ok _ _) hg] at h; cases h
    | some x =>
      rcases Classical.em ((addF (lastL p) m x).2 = 0) with h0 | h0
      · rw [chg_some (addF_ok _ _) hg h0] at h
        injection h with h1 _
        have hx : (addF (lastL p) m x).1 = splT x (lastL p).toNat 0 [m] ∧ 0 ≤ lastL p ∧ lastL p ≤ x.ks.length := by
          unfold addF at h0 ⊢
          split at h0
          · cases h0
          · split at h0
            · cases h0
            · rename_i h2 h3; rw [if_neg h2, if_neg h3]; exact ⟨rfl, by omega, by omega⟩
        obtain ⟨hx1, hx2, hx3⟩ := hx
        rw [hx1] at h1
        have hg2 : getO a (upP p) = some (splT x (lastL p).toNat 0 [m]) := by rw [← h1]; exact get_put n (upP p) _ x hg
        have hk : kidT (splT x (lastL p).toNat 0 [m]) (lastL p) = some m := by
          unfold kidT; rw [if_pos hx2]; exact spl_mid (by omega)
        have hc : cutF (lastL p) (splT x (lastL p).toNat 0 [m]) = (x, 0) := by
          unfold cutF; rw [if_pos (kid_yes hk)]
          congr 1
          show NT.mk _ _ _ (spl (spl x.ks (lastL p).toNat 0 [m]) (lastL p).toNat 1 []) = x
          rw [spl_spl (by omega)]; exact NT.eta x
        constructor
        · rw [chg_some (cutF_ok _) hg2 (by rw [hc]), hc, ← h1, put_put n _ _ _ x hg, put_get n _ x hg]
        · have : getO a p = some m := by rw [getO_up hp, hg2]; exact hk
          rw [getE_some this]
      · rw [chg_err (addF_ok _ _) hg h0] at h
        injection h with _ h2
        exact absurd h2 h0
set_option maxRecDepth 4000 in
theorem cut_err {n : NT} {p : List Int} (h : (cutE n p).2 ≠ 0) : (cutE n p).1 = zeroT ∧ cutM n p = zeroT := by
  unfold cutE cutM at *
  split at h
  · rename_i hp; rw [if_pos hp, if_pos hp]; exact ⟨rfl, rfl⟩
  · rename_i hp
    rw [if_neg hp, if_neg hp]
    cases hg : getO n (upP p) with
    | none =>
      rw [chg_none (cutF_ok _) hg]
      have : getO n p = none := by rw [getO_up hp, hg]; rfl
      rw [getE_none this]; exact ⟨rfl, rfl⟩
    | some x =>
      rcases Classical.em ((cutF (lastL p) x).2 = 0) with h0 | h0
      · rw [chg_some (cutF_ok _) hg h0] at h; exact absurd rfl h
      · rw [chg_err (cutF_ok _) hg h0]
        have hb : hasB x (lastL p) = false := by
          unfold cutF at h0
          cases hb : hasB x (lastL p)
          · rfl
          · rw [hb] at h0; exact absurd rfl h0
        have : getO n p = none := by rw [getO_up hp, hg]; exact kid_none hb
        rw [getE_none this]; exact ⟨rfl, rfl⟩
set_option maxRecDepth 4000 in
/-- What was cut out of an element is added again. -/
theorem cut_add {n : NT} {p : List Int} (h : (cutE n p).2 = 0) : ∃ x k, p.length ≠ 0 ∧ getO n (upP p) = some x ∧ kidT x (lastL p) = some k ∧ cutM n p = k ∧ (cutE n p).1 = putT n (upP p) (splT x (lastL p).toNat 1 []) ∧
    getO (cutE n p).1 (upP p) = some (splT x (lastL p).toNat 1 []) ∧ (x.lf = false → addE (cutE n p).1 p k = (n, 0)) := by
  unfold cutE cutM at *
  split at h
  · cases h
  · rename_i hp
    rw [if_neg hp, if_neg hp]
    cases hg : getO n (upP p) with
    | none => rw [chg_none (cutF_ok _) hg] at h; cases h
    | some x =>
      rcases Classical.em ((cutF (lastL p) x).2 = 0) with h0 | h0
      · have hb : hasB x (lastL p) = true := by
          unfold cutF at h0
          cases hb : hasB x (lastL p)
          · rw [hb] at h0; cases h0
          · rfl
        obtain ⟨k, hk⟩ := kid_some hb
        have hc : cutF (lastL p) x = (splT x (lastL p).toNat 1 [], 0) := by unfold cutF; rw [if_pos hb]
        have hgp : getO n p = some k := by rw [getO_up hp, hg]; exact hk
        have e : chgT (cutF (lastL p)) n (upP p) = (putT n (upP p) (splT x (lastL p).toNat 1 []), 0) := by rw [chg_some (cutF_ok _) hg h0, hc]
        rw [e]
        have hg2 := get_put n (upP p) (splT x (lastL p).toNat 1 []) x hg
        refine ⟨x, k, hp, rfl, hk, by rw [getE_some hgp], rfl, hg2, fun hl => ?_⟩
        obtain ⟨k1, k2, k3⟩ := kid_has hk
        have ha : addF (lastL p) k (splT x (lastL p).toNat 1 []) = (x, 0) := by
          unfold addF
          rw [if_neg (by show ¬ x.lf = true; rw [hl]; simp)]
          have hlen := spl_len (ks := x.ks) (i := (lastL p).toNat) (many := 1) (o := []) (by omega)
          rw [if_neg (by
            show ¬ (lastL p < 0 ∨ ((spl x.ks (lastL p).toNat 1 []).length : Int) < lastL p)
            simp at hlen
            omega)]
          congr 1
          show NT.mk _ _ _ (spl (spl x.ks (lastL p).toNat 1 []) (lastL p).toNat 0 [k]) = x
          rw [spl_back k3]; exact NT.eta x
        unfold addE
        rw [if_neg hp, chg_some (addF_ok _ _) hg2 (by rw [ha]), ha]
        show (putT (putT n (upP p) _) (upP p) x, (0 : Int)) = _
        rw [put_put n _ _ _ x hg, put_get n _ x hg]
      · rw [chg_err (cutF_ok _) hg h0] at h; exact absurd h h0

set_option maxRecDepth 4000 in
/-- Sizes. -/
theorem sizeK_spl {ks : List NT} {i : Nat} {m : NT} (_h : i ≤ ks.length) : sizeK (spl ks i 0 [m]) = sizeK ks + sizeT m := by
  unfold spl
  rw [sizeK_append, sizeK_append, Nat.add_zero]
  have : sizeK ks = sizeK (ks.take i) + sizeK (ks.drop i) := by rw [← sizeK_append, List.take_append_drop]
  simp only [sizeK]
  omega
set_option maxRecDepth 4000 in
theorem sizeT_eta (n : NT) : sizeT n = 1 + n.tx.length + sizeK n.ks := by cases n; simp only [sizeT, NT.tx, NT.ks]
set_option maxRecDepth 4000 in
theorem sizeK_set {ks : List NT} {i : Nat} {k k' : NT} (h : ks[i]? = some k) : sizeK (ks.set i k') + sizeT k = sizeK ks + sizeT k' := by
  obtain ⟨h1, h2⟩ := List.getElem?_eq_some_iff.1 h
  rw [List.set_eq_take_append_cons_drop, if_pos h1, sizeK_append]
  have e : sizeK ks = sizeK (ks.take i) + sizeK (ks.drop i) := by rw [← sizeK_append, List.take_append_drop]
  rw [drop_one h] at e
  simp only [sizeK] at e ⊢
  omega
set_option maxRecDepth 4000 in
theorem size_put : ∀ (n : NT) (p : List Int) (m x : NT), getO n p = some x → sizeT (putT n p m) + sizeT x = sizeT n + sizeT m
  | n, [], m, x => fun h => by injection h with h; rw [putT, h]; omega
  | n, i :: r, m, x => by
    rw [getO_cons]
    cases h : kidT n i with
    | none => intro h2; cases h2
    | some k =>
      intro h2
      simp only [putT, h]
      have ih := size_put k r m x h2
      obtain ⟨k1, k2, k3⟩ := kid_has h
      have h4 := sizeK_set (k' := putT k r m) k3
      rw [sizeT_eta (setK n i.toNat (putT k r m)), sizeT_eta n, setK_ks (by omega)]
      show 1 + n.tx.length + _ + _ = _
      omega
set_option maxRecDepth 4000 in
theorem size_add {n a m : NT} {p : List Int} (h : addE n p m = (a, 0)) : sizeT a = sizeT n + sizeT m ∧ ∃ x, p.length ≠ 0 ∧ getO n (upP p) = some x ∧ getO a (upP p) = some (splT x (lastL p).toNat 0 [m]) ∧ (splT x (lastL p).toNat 0 [m]).ks.length = x.ks.length + 1 := by
  unfold addE at h
  split at h
  · cases h
  · rename_i hp
    cases hg : getO n (upP p) with
    | none => rw [chg_none (addF_ok _ _) hg] at h; cases h
    | some x =>
      rcases Classical.em ((addF (lastL p) m x).2 = 0) with h0 | h0
      · rw [chg_some (addF_ok _ _) hg h0] at h
        injection h with h1 _
        have hx : (addF (lastL p) m x).1 = splT x (lastL p).toNat 0 [m] ∧ 0 ≤ lastL p ∧ lastL p ≤ x.ks.length := by
          unfold addF at h0 ⊢
          split at h0
          · cases h0
          · split at h0
            · cases h0
            · rename_i h2 h3; rw [if_neg h2, if_neg h3]; exact ⟨rfl, by omega, by omega⟩
        obtain ⟨hx1, hx2, hx3⟩ := hx
        rw [hx1] at h1
        have h5 := size_put n (upP p) (splT x (lastL p).toNat 0 [m]) x hg
        rw [h1] at h5
        have h6 : sizeT (splT x (lastL p).toNat 0 [m]) = sizeT x + sizeT m := by
          rw [sizeT_eta, sizeT_eta x]
          show 1 + x.tx.length + sizeK (spl x.ks _ 0 [m]) = _
          rw [sizeK_spl (by omega)]; omega
        refine ⟨by omega, x, hp, rfl, by rw [← h1]; exact get_put n _ _ x hg, ?_⟩
        have := spl_len (ks := x.ks) (i := (lastL p).toNat) (many := 0) (o := [m]) (by omega)
        simp at this
        exact this
      · rw [chg_err (addF_ok _ _) hg h0] at h
        injection h with _ h2
        exact absurd h2 h0

end Go.Proofs.Ytdjajpookmmafaa

namespace Go.Proofs.Ytdjajpookmmafaa
open Go.RowKit
open Go.WideShapes (add_plain)

/-- Nothing has changed but block g. -/
structure Off (g : Nat) (w w' : World) : Prop where
  os : w'.os = w.os
  tape : w'.tape = w.tape
  output : w'.output = w.output
  size : w.heap.size ≤ w'.heap.size
  block : ∀ k, k < w.heap.size → k ≠ g → w'.heap[k]? = w.heap[k]?
set_option maxRecDepth 4000 in
theorem Off.refl (g : Nat) (w : World) : Off g w w := ⟨rfl, rfl, rfl, Nat.le_refl _, fun _ _ _ => rfl⟩
set_option maxRecDepth 4000 in
theorem Off.of_below {g : Nat} {w w' : World} (h : Below w.heap.size w w') : Off g w w' := ⟨h.os, h.tape, h.output, h.size, fun k hk _ => h.block k hk⟩
set_option maxRecDepth 4000 in
theorem Off.trans {g : Nat} {a b c : World} (h : Off g a b) (k : Off g b c) : Off g a c :=
  ⟨k.os.trans h.os, k.tape.trans h.tape, k.output.trans h.output, Nat.le_trans h.size k.size, fun i hi hg => (k.block i (Nat.lt_of_lt_of_le hi h.size) hg).trans (h.block i hi hg)⟩
set_option maxRecDepth 4000 in
theorem Off.below {g B : Nat} {w w' : World} (h : Off g w w') (hg : B ≤ g) (hB : B ≤ w.heap.size) : Below B w w' :=
  ⟨h.os, h.tape, h.output, h.size, fun k hk => h.block k (by omega) (by omega)⟩
set_option maxRecDepth 4000 in
theorem Off.cell {g : Nat} {w w' : World} (h : Off g w w') {p : Addr} (hp : p.block < w.heap.size) (hg : p.block ≠ g) : w'.cell? p = w.cell? p := World.cell?_of_block (h.block p.block hp hg)
set_option maxRecDepth 4000 in
theorem Off.frozen {g : Nat} {w w' : World} (h : Off g w w') {p : Addr} (hp : p.block < w.heap.size) (hg : p.block ≠ g) : w'.frozen? p = w.frozen? p := World.frozen?_of_block (h.block p.block hp hg)

set_option maxRecDepth 4000 in
theorem TreeP.deep {P : Nat → Prop} {w : World} : ∀ {d d' : Nat} {v : Value} {n : NT}, d ≤ d' → TreeP P d w v n → TreeP P d' w v n
  | 0, _, _, _, _, h => h.elim
  | d + 1, 0, _, _, h, _ => absurd h (Nat.not_succ_le_zero _)
  | d + 1, d' + 1, _, _, hd, ⟨PA, pc, TA, tc, KA, kc, e, hp, ht, hf, hks⟩ => ⟨PA, pc, TA, tc, KA, kc, e, hp, ht, hf, fun k m hm => by
      obtain ⟨b, o, u, e1, hb, hn, hc, hz⟩ := hks k m hm
      exact ⟨b, o, u, e1, hb, hn.deep (Nat.le_of_succ_le_succ hd), hc, hz⟩⟩
set_option maxRecDepth 4000 in
theorem NodeAt.deep {w : World} {B : Nat} : ∀ {d d' : Nat} {v : Value} {n : NT}, d ≤ d' → NodeAt d w B v n → NodeAt d' w B v n
  | 0, _, _, _, _, h => h.elim
  | d + 1, 0, _, _, h, _ => absurd h (Nat.not_succ_le_zero _)
  | d + 1, d' + 1, _, _, hd, ⟨PA, pc, TA, tc, KA, kc, e, hp, ht, hf, hks⟩ => ⟨PA, pc, TA, tc, KA, kc, e, hp, ht, hf, fun k m hm => by
      obtain ⟨b, o, u, e1, hb, hn, hc⟩ := hks k m hm
      exact ⟨b, o, u, e1, hb, hn.deep (Nat.le_of_succ_le_succ hd), hc⟩⟩
/-- The zero node. -/
def zeroV : Value := .agg #[.bool false, .slice none 0 0, .slice none 0 0, .slice none 0 0]
set_option maxRecDepth 4000 in
theorem fit_zero : FitN [] 0 0 0 0 0 := ⟨⟨by simp, by simp⟩, by simp, by omega, by omega, by simp, by omega, by omega⟩
set_option maxRecDepth 4000 in
theorem zero_tree (P : Nat → Prop) (d : Nat) (w : World) : TreeP P (d + 1) w (.agg #[.bool false, .slice none 0 0, .slice none 0 0, .slice none 0 0]) zeroT :=
  ⟨none, 0, none, 0, none, 0, rfl, fun k u h => by simp [pv, zeroT, NT.ps] at h, fun k u h => by simp [rv, zeroT, NT.tx] at h, fit_zero, fun k m h => by simp [zeroT, NT.ks] at h⟩

/-- A tree whose row of Kids is its own. -/
def TopP (P : Nat → Prop) : Nat → World → Value → NT → Prop
  | 0, _, _, _ => False
  | d + 1, w, v, n => ∃ PA pc TA tc KA kc, v = .agg #[.bool n.lf, .slice PA n.ps.length pc, .slice TA n.tx.length tc, .slice KA n.ks.length kc] ∧
      VP (fun b => P b ∧ some b ≠ (Value.slice KA 0 0).ownBlock) w PA (pv n.ps) ∧ VP (fun b => P b ∧ some b ≠ (Value.slice KA 0 0).ownBlock) w TA (rv n.tx) ∧ FitN n.ps n.tx.length n.ks.length pc tc kc ∧
      (∀ k m, n.ks[k]? = some m → ∃ g u, KA = some ⟨g, 0, none⟩ ∧ P g ∧ TreeP (fun b => P b ∧ some b ≠ (Value.slice KA 0 0).ownBlock) d w u m ∧ Cells4 w g (0 + k * 4) u ∧ ∀ i, i < 4 → w.frozen? ⟨g, k * 4 + i, none⟩ = false)
set_option maxRecDepth 4000 in
theorem TopP.tree {P : Nat → Prop} : ∀ {d : Nat} {w : World} {v : Value} {n : NT}, TopP P d w v n → TreeP P d w v n
  | 0, _, _, _, h => h.elim
  | d + 1, w, v, n, ⟨PA, pc, TA, tc, KA, kc, e, hp, ht, hf, hks⟩ => ⟨PA, pc, TA, tc, KA, kc, e, hp.keep (fun _ h => h.1) (fun _ _ => ⟨rfl, rfl⟩), ht.keep (fun _ h => h.1) (fun _ _ => ⟨rfl, rfl⟩), hf, fun k m hm => by
      obtain ⟨g, u, e1, hg, ht, hc, hz⟩ := hks k m hm
      exact ⟨g, 0, u, e1, hg, ht.keep (fun _ h => h.1) (fun _ _ => ⟨rfl, rfl⟩), hc, by have := hz 0 (by omega); rw [Nat.zero_add]; exact this⟩⟩

/-- The blocks that hold what has been built so far, but for the variable and its row. -/
def Spare (P : Nat → Prop) (g : Nat) (v : Value) (w : World) (b : Nat) : Prop := P b ∧ b < w.heap.size ∧ b ≠ g ∧ some b ≠ v.ownBlock
/-- A node that a call builds in block gO; all blocks from 'base' on are the call's own. -/
structure Build (P : Nat → Prop) (wb : World) (base d : Nat) (lf : Bool) (ps : List Pr) (tx : List Int) (gO : Nat) (PA : Option Addr) (pc : Nat) (TA : Option Addr) (tc : Nat) (vK : Value) (n : Nat) (us : List Value) (ks : List NT) (wr : World) : Prop where
  below : Below base wb wr
  bs : base ≤ wb.heap.size
  lo : base ≤ gO
  up : ∀ b, base ≤ b → P b
  out : wr.heap[gO]? = some (.cells #[.bool lf, .slice PA ps.length pc, .slice TA tx.length tc, vK] 27 (0, 0))
  row : wr.ownsRow base 27 4 vK n (us.flatMap fun u => u.cells.toList)
  len : us.length = n
  num : ks.length = n
  apart : vK.ownBlock ≠ some gO
  props : VP (Spare P gO vK wr) wr PA (pv ps)
  text : VP (Spare P gO vK wr) wr TA (rv tx)
  kids : ∀ (j : Nat) (m : NT), ks[j]? = some m → ∃ u, us[j]? = some u ∧ TreeP (Spare P gO vK wr) d wr u m

set_option maxRecDepth 4000 in
theorem Build.deep {P : Nat → Prop} {wb wr : World} {base d d' : Nat} {lf : Bool} {ps : List Pr} {tx : List Int} {gO : Nat} {PA : Option Addr} {pc : Nat} {TA : Option Addr} {tc : Nat} {vK : Value} {n : Nat} {us : List Value} {ks : List NT} (h : Build P wb base d lf ps tx gO PA pc TA tc vK n us ks wr) (hd : d ≤ d') :
    Build P wb base d' lf ps tx gO PA pc TA tc vK n us ks wr :=
  ⟨h.below, h.bs, h.lo, h.up, h.out, h.row, h.len, h.num, h.apart, h.props, h.text, fun j m hm => by
    obtain ⟨u, h1, h2⟩ := h.kids j m hm
    exact ⟨u, h1, h2.deep hd⟩⟩

set_option maxRecDepth 4000 in
theorem flat_append (us vs : List Value) : ((us ++ vs).flatMap fun u => u.cells.toList) = (us.flatMap fun u => u.cells.toList) ++ (vs.flatMap fun u => u.cells.toList) := by simp

set_option maxRecDepth 4000 in
/-- Kids more: the row grows, the variable takes it. -/
theorem build_more {P : Nat → Prop} {wb wr w4 w6 : World} {base d : Nat} {lf : Bool} {ps : List Pr} {tx : List Int} {gO : Nat} {PA : Option Addr} {pc : Nat} {TA : Option Addr} {tc : Nat} {vK : Value} {n : Nat} {us : List Value} {ks : List NT}
    (h : Build P wb base d lf ps tx gO PA pc TA tc vK n us ks wr) {vK' : Value} {n' : Nat} {vs : List Value} {ms : List NT} (hn : n' = n + ms.length) (hl : vs.length = ms.length)
    (hb4 : Below wr.heap.size wr w4) (hgrow : w4.grownBy w6 vK.ownBlock) (hown : w6.ownsRow base 27 4 vK' n' ((us.flatMap fun u => u.cells.toList) ++ (vs.flatMap fun u => u.cells.toList)))
    (hat : vK'.ownBlock = vK.ownBlock ∨ ∃ g, vK'.ownBlock = some g ∧ w4.heap.size ≤ g)
    (hm : ∀ (j : Nat) (m : NT), ms[j]? = some m → ∃ u, vs[j]? = some u ∧ TreeP (Spare P gO vK w4) d w4 u m) :
    Build P wb base d lf ps tx gO PA pc TA tc vK' n' (us ++ vs) (ks ++ ms) (w6.setCell ⟨gO, 3, none⟩ vK') := by
  have hOl := lt_of_block h.out
  have hbs := hb4.size
  have hgs := hgrow.size
  have hbw := h.below.size
  have hlo := h.lo
  have hbase := h.bs
  obtain ⟨wx, hwx⟩ : ∃ wx, wx = w6.setCell ⟨gO, 3, none⟩ vK' := ⟨_, rfl⟩
  have ex : wx.heap.size = w6.heap.size := by rw [hwx]; simp
  have hx4 : ∀ b, b < w4.heap.size → b ≠ gO → some b ≠ vK.ownBlock → wx.heap[b]? = w4.heap[b]? := fun b hb h1 h2 => by
    rw [hwx, Below.heap_setCell _ _ _ _ (by simpa using h1), hgrow.block b hb h2]
  have hrb : ∀ b, vK.ownBlock = some b → base ≤ b ∧ b < wr.heap.size := fun b e => h.row.lt b e
  have hapart : vK'.ownBlock ≠ some gO := by
    rcases hat with e | ⟨g, e, hg⟩
    · rw [e]; exact h.apart
    · rw [e]; intro e2; injection e2 with e2; omega
  have hP : ∀ b, Spare P gO vK w4 b → Spare P gO vK' wx b := fun b hb => ⟨hb.1, by have := hb.2.1; omega, hb.2.2.1, by
    rcases hat with e | ⟨g, e, hg⟩
    · rw [e]; exact hb.2.2.2
    · rw [e]; intro e2; injection e2 with e2; have := hb.2.1; omega⟩
  have hK : ∀ p : Addr, Spare P gO vK w4 p.block → wx.cell? p = w4.cell? p ∧ wx.frozen? p = w4.frozen? p := fun p hp =>
    ⟨World.cell?_of_block (hx4 _ hp.2.1 hp.2.2.1 hp.2.2.2), World.frozen?_of_block (hx4 _ hp.2.1 hp.2.2.1 hp.2.2.2)⟩
  have hP0 : ∀ b, Spare P gO vK wr b → Spare P gO vK w4 b := fun b hb => ⟨hb.1, by have := hb.2.1; omega, hb.2.2.1, hb.2.2.2⟩
  have hK0 : ∀ p : Addr, Spare P gO vK wr p.block → w4.cell? p = wr.cell? p ∧ w4.frozen? p = wr.frozen? p := fun p hp => ⟨hb4.cell hp.2.1, hb4.frozen hp.2.1⟩
  have hb0 : Below base wb w4 := h.below.trans (hb4.mono (by omega))
  have hbx : Below base wb wx := hwx ▸ (hb0.grown hgrow (by omega) (fun j hj => (hrb j hj).1)).setCell (by show _ ≤ gO; omega) _
  rw [← hwx]
  refine ⟨hbx, h.bs, h.lo, h.up, ?_, ?_, by rw [List.length_append, h.len, hl, hn], by rw [List.length_append, h.num, hn], hapart, (h.props.keep hP0 hK0).keep hP hK, (h.text.keep hP0 hK0).keep hP hK, fun j m hj => ?_⟩
  · have h6 : w6.heap[gO]? = _ := (hgrow.block gO (by omega) (fun e => h.apart e.symm)).trans ((hb4.block gO hOl).trans h.out)
    rw [hwx, setCell_block h6]; rfl
  · rw [hwx, flat_append]
    exact ownsRow_setCell_other hown (a := ⟨gO, 3, none⟩) hapart _
  · rcases Nat.lt_or_ge j ks.length with hjk | hjk
    · rw [List.getElem?_append_left hjk] at hj
      obtain ⟨u, hu, ht⟩ := h.kids j m hj
      exact ⟨u, by rw [List.getElem?_append_left (by rw [h.len, ← h.num]; exact hjk)]; exact hu, (ht.keep hP0 hK0).keep hP hK⟩
    · rw [List.getElem?_append_right hjk] at hj
      obtain ⟨u, hu, ht⟩ := hm _ m hj
      refine ⟨u, ?_, ht.keep hP hK⟩
      rw [List.getElem?_append_right (by rw [h.len, ← h.num]; exact hjk), h.len, ← h.num]; exact hu

set_option maxRecDepth 4000 in
/-- One kid more, told by a call. -/
theorem build_step {P : Nat → Prop} {wb wr wk w4 w6 : World} {base d : Nat} {lf : Bool} {ps : List Pr} {tx : List Int} {gO : Nat} {PA : Option Addr} {pc : Nat} {TA : Option Addr} {tc : Nat} {vK : Value} {n : Nat} {us : List Value} {ks : List NT}
    (h : Build P wb base d lf ps tx gO PA pc TA tc vK n us ks wr) {m : NT} {c0 c1 c2 c3 : Value} {g6 cap6 : Nat} {t : TypeId} (hbk : Below wr.heap.size wr wk)
    (hb4 : Below wk.heap.size wk w4) (ht4 : TreeP (fun b => wk.heap.size ≤ b ∧ b < w4.heap.size) d w4 (.agg #[c0, c1, c2, c3]) m) (hgrow : (w4.alloc (.cells #[c0, c1, c2, c3] t)).grownBy w6 vK.ownBlock)
    (hown : w6.ownsRow base 27 4 (.slice (some ⟨g6, 0, none⟩) (n + 1) cap6) (n + 1) ((us.flatMap fun u => u.cells.toList) ++ [c0, c1, c2, c3])) (hat : vK.ownBlock = some g6 ∨ g6 = w4.heap.size + 1) :
    Build P wb base d lf ps tx gO PA pc TA tc (.slice (some ⟨g6, 0, none⟩) (n + 1) cap6) (n + 1) (us ++ [.agg #[c0, c1, c2, c3]]) (ks ++ [m]) (w6.setCell ⟨gO, 3, none⟩ (.slice (some ⟨g6, 0, none⟩) (n + 1) cap6)) := by
  have hbs := hbk.size
  have hb4s := hb4.size
  have hbase := h.bs
  have hbw := h.below.size
  have hOl := lt_of_block h.out
  have e5 : (w4.alloc (.cells #[c0, c1, c2, c3] t)).heap.size = w4.heap.size + 1 := sz1
  have hb45 : Below w4.heap.size w4 (w4.alloc (.cells #[c0, c1, c2, c3] t)) := (Below.refl _ _).alloc (Nat.le_refl _) _
  have hbr5 : Below wr.heap.size wr (w4.alloc (.cells #[c0, c1, c2, c3] t)) := (hbk.trans (hb4.mono hbs)).alloc (by omega) _
  refine build_more h (by simp) (by simp) hbr5 hgrow (by simpa [Value.cells] using hown) ?_ (fun j m' hj => ?_)
  · rcases hat with e | e
    · exact .inl (by rw [e]; rfl)
    · exact .inr ⟨g6, rfl, by omega⟩
  · cases j with
    | zero =>
      simp only [List.getElem?_cons_zero, Option.some.injEq] at hj
      subst hj
      refine ⟨_, rfl, ht4.keep (fun b hb => ⟨h.up b (by omega), by omega, by omega, fun e => ?_⟩) (fun p hp => ⟨hb45.cell hp.2, hb45.frozen hp.2⟩)⟩
      have := (h.row.lt b e.symm).2
      omega
    | succ j => simp at hj

set_option maxRecDepth 4000 in
/-- What a row of the call's own holds, nil or not. -/
theorem own_free {t : TypeId} {size n : Nat} {v : Value} {xs : List Value} {w : World} {base : Nat} (h : w.ownsRow base t size v n xs) : ∃ A c, v = .slice A n c ∧ n ≤ c ∧ c ≤ maxLen ∧ ∀ k u, xs[k]? = some u → ∃ g, A = some ⟨g, 0, none⟩ ∧ base ≤ g ∧ g < w.heap.size ∧ Free w g k u := by
  rcases h.2 with ⟨e, h0⟩ | ⟨g, cap, cur, e, hb, hh, h1, h2, _⟩
  · refine ⟨none, 0, by rw [e, h0], by omega, by unfold maxLen; omega, fun k u hu => ?_⟩
    have := (List.getElem?_eq_some_iff.1 hu).1
    rw [h.1, h0] at this
    omega
  · refine ⟨some ⟨g, 0, none⟩, cap, e, h1, h2, fun k u hu => ⟨g, rfl, hb, lt_of_block hh, ?_, by simp [World.frozen?, hh]⟩⟩
    have := h.cells (g := g) (by rw [e]; rfl) k u hu
    rwa [add_plain, Nat.zero_add] at this

set_option maxRecDepth 4000 in
/-- The end: the whole node. -/
theorem build_end {P : Nat → Prop} {wb wr w7 : World} {base d : Nat} {lf : Bool} {ps : List Pr} {tx : List Int} {gO : Nat} {PA : Option Addr} {pc : Nat} {TA : Option Addr} {tc : Nat} {vK : Value} {n : Nat} {us : List Value} {ks : List NT}
    (h : Build P wb base d lf ps tx gO PA pc TA tc vK n us ks wr) (hf : Wide ps ∧ ps.length ≤ 4398046511104 ∧ tx.length ≤ 35184372088832 ∧ ks.length ≤ 1759218604441 ∧ ps.length ≤ pc ∧ tx.length ≤ tc) (hs : wr.heap.size ≤ w7.heap.size) (h7 : ∀ b, P b → b < wr.heap.size → w7.heap[b]? = wr.heap[b]?) :
    TopP (fun b => P b ∧ b < w7.heap.size) (d + 1) w7 (.agg #[.bool lf, .slice PA ps.length pc, .slice TA tx.length tc, vK]) (.mk lf ps tx ks) := by
  have hrow := h.row
  obtain ⟨KA, kc, rfl, hnc, hcm, hfree⟩ := own_free hrow
  have hobs : (Value.slice KA 0 0).ownBlock = (Value.slice KA n kc).ownBlock := by cases KA <;> rfl
  have hP : ∀ b, Spare P gO (.slice KA n kc) wr b → ((P b ∧ b < w7.heap.size) ∧ some b ≠ (Value.slice KA 0 0).ownBlock) := fun b hb => ⟨⟨hb.1, by have := hb.2.1; omega⟩, by rw [hobs]; exact hb.2.2.2⟩
  have hK : ∀ p : Addr, Spare P gO (.slice KA n kc) wr p.block → w7.cell? p = wr.cell? p ∧ w7.frozen? p = wr.frozen? p := fun p hp =>
    ⟨World.cell?_of_block (h7 _ hp.1 hp.2.1), World.frozen?_of_block (h7 _ hp.1 hp.2.1)⟩
  have h4 : ∀ x ∈ us, x.cells.size = 4 := fun x hx => by
    obtain ⟨j, hj, rfl⟩ := List.mem_iff_getElem.1 hx
    obtain ⟨u, hu, ht⟩ := h.kids j _ (List.getElem?_eq_getElem (by rw [h.num, ← h.len]; exact hj))
    rw [List.getElem?_eq_getElem hj] at hu
    injection hu with hu
    obtain ⟨c0, c1, c2, c3, e⟩ := ht.four
    rw [hu, e]; rfl
  refine ⟨PA, pc, TA, tc, KA, kc, by rw [← h.num]; rfl, h.props.keep hP hK, h.text.keep hP hK, ⟨hf.1, hf.2.1, hf.2.2.1, hf.2.2.2.1, hf.2.2.2.2.1, hf.2.2.2.2.2, by show ks.length ≤ kc; rw [h.num]; exact hnc⟩, fun k m hm => ?_⟩
  have hk : k < ks.length := (List.getElem?_eq_some_iff.1 hm).1
  obtain ⟨u, hu, ht⟩ := h.kids k m hm
  obtain ⟨c0, c1, c2, c3, e⟩ := ht.four
  have hc := fun i c hi => hfree (k * 4 + i) c (cells_at us k u c0 c1 c2 c3 h4 hu e i c hi)
  obtain ⟨g, hg, hgb, hgl, _, _⟩ := hc 0 c0 rfl
  subst hg
  have hw7 : w7.heap[g]? = wr.heap[g]? := h7 g (h.up g hgb) hgl
  have hc' : ∀ i c, [c0, c1, c2, c3][i]? = some c → w7.cell? ⟨g, k * 4 + i, none⟩ = some c ∧ w7.frozen? ⟨g, k * 4 + i, none⟩ = false := fun i c hi => by
    obtain ⟨g', e', _, _, h5, h6⟩ := hc i c hi
    injection e' with e'
    injection e' with e'
    subst e'
    exact ⟨(World.cell?_of_block (a := ⟨g, k * 4 + i, none⟩) hw7).trans h5, (World.frozen?_of_block (a := ⟨g, k * 4 + i, none⟩) hw7).trans h6⟩
  refine ⟨g, u, rfl, ⟨h.up g hgb, by omega⟩, ht.keep hP hK, ⟨c0, c1, c2, c3, e, ?_, ?_, ?_, ?_⟩, fun i hi => ?_⟩
  · rw [Nat.zero_add]; exact (hc' 0 c0 rfl).1
  · rw [Nat.zero_add]; exact (hc' 1 c1 rfl).1
  · rw [Nat.zero_add]; exact (hc' 2 c2 rfl).1
  · rw [Nat.zero_add]; exact (hc' 3 c3 rfl).1
  · match i, hi with
    | 0, _ => exact (hc' 0 c0 rfl).2
    | 1, _ => exact (hc' 1 c1 rfl).2
    | 2, _ => exact (hc' 2 c2 rfl).2
    | 3, _ => exact (hc' 3 c3 rfl).2

/-- A new tree, its row its own. -/
def CopiedT (d : Nat) (n : NT) (w : World) (e : Ending) (w' : World) : Prop :=
  ∃ v, e = .returned v ∧ TopP (fun b => w.heap.size ≤ b ∧ b < w'.heap.size) d w' v n ∧ Below w.heap.size w w'
set_option maxRecDepth 4000 in
theorem CopiedT.copied {d : Nat} {n : NT} {w w' : World} {e : Ending} (h : CopiedT d n w e w') : Copied d n w e w' := by
  obtain ⟨v, h1, h2, h3⟩ := h
  exact ⟨v, h1, h2.tree, h3⟩

end Go.Proofs.Ytdjajpookmmafaa

namespace Go.Proofs.Ytdjajpookmmafaa
open Go.RowKit
open Go.WideShapes (add_plain)

theorem run_append_zeroG {w : World} {ty t : TypeId} {base e size n : Nat} {i : TypeInfo} {v : Value} {xs : List Value} {A : Option Addr} {c : Nat} (ht : Try.prog.underlying t = some (.slice e)) (hi : Try.prog.info? e = some i) (hown : w.ownsRow base e size v n xs) :
    (Builtin.append_ #[t, t] ty #[v, .slice A 0 c]).run Try.prog w = .ok v w := by
  rcases hown.2 with ⟨rfl, rfl⟩ | ⟨g, cap, cur, rfl, _, _, hnc, _⟩
  · cases A <;> simp [Builtin.append_, run_underlying ht, sizeOf, typeInfo, hi, Builtin.lenOf, Builtin.firstCells, loadCells, loadCellsFrom]
  · cases A <;> simp [Builtin.append_, run_underlying ht, sizeOf, typeInfo, hi, Builtin.lenOf, Builtin.firstCells, loadCells, loadCellsFrom, hnc, storeCells]

set_option maxRecDepth 4000 in
/-- A list appended to nil. -/
theorem run_append_nilG {ts te : TypeId} {size by_ : Nat} (E : ElemG ts te size by_) (W : World) (ty : TypeId) (A : Option Addr) (m c B : Nat) (l : List Value) (hn : l.length = m * size) (hp : VL W B A l) (h1 : ∀ u ∈ l, u.oneCell' = true) (h63 : m ≤ maxLen) (hby : m * by_ ≤ 140737488355328) :
    ∃ A' c' w', (Builtin.append_ #[ts, ts] ty #[.slice none 0 0, .slice A m c]).run Try.prog W = .ok (.slice A' m c') w' ∧ w'.ownsRow W.heap.size te size (.slice A' m c') m l ∧ W.grownBy w' none := by
  obtain ⟨i0, z, hi, hz0, hz1, hz2, hz3⟩ := E.info
  have hsz := E.pos
  have h0 := World.ownsRow_nil W W.heap.size te size
  rcases Nat.eq_zero_or_pos m with hm | hm
  · subst hm
    have hl : l = [] := List.eq_nil_of_length_eq_zero (by simpa using hn)
    subst hl
    exact ⟨none, 0, W, run_append_zeroG E.under hi h0, h0, rfl, rfl, rfl, Nat.le_refl _, fun _ _ _ => rfl⟩
  · have hl : 0 < l.length := by have := Nat.mul_pos hm hsz; omega
    obtain ⟨b, o, rfl, _, hc⟩ := hp (List.length_pos_iff.1 hl)
    obtain ⟨g, cap, w', hr, h2, h3, _, _⟩ := run_append_lies (P := Try.prog) W ts ty W.heap.size te i0 z size by_ E.under hi hz0 hz1 hz2 hz3 hsz (.slice none 0 0) 0 [] h0 ⟨b, o, none⟩ m c l hn (fun j u hj => by rw [add_plain]; exact hc j u hj) h1 hm (by omega) (by rw [Nat.zero_add]; exact hby) (Nat.le_refl _) _ rfl
    rw [Nat.zero_add] at hr h2
    exact ⟨some ⟨g, 0, none⟩, cap, w', hr, h2, h3⟩

set_option maxRecDepth 4000 in
theorem step_append_nilG {ts te : TypeId} {size by_ : Nat} (E : ElemG ts te size by_) (W : World) {ops : Array Oper} {o : Oper} {a : Act} {K : Act → World → Prop} {Q : Exit → Act → World → Prop} {F : Prop} (hgd : o.guard = none) (s x : Operand)
    (ho : o.op = .call { callee := .builtin .append, args := #[s, x], argTypes := #[ts, ts] }) (hs : a.eval s = .slice none 0 0)
    (A : Option Addr) (m c B : Nat) (l : List Value) (hx : a.eval x = .slice A m c) (hn : l.length = m * size) (hp : VL W B A l) (h1 : ∀ u ∈ l, u.oneCell' = true) (h63 : m ≤ maxLen) (hby : m * by_ ≤ 140737488355328)
    (h : ∀ A' c' w', w'.ownsRow W.heap.size te size (.slice A' m c') m l → W.grownBy w' none → K (a.put o.dst (.slice A' m c')) w') :
    if Region.wanted o (yielded ops a.tmps) = true then Oper.wp Try.prog o a W K Q else F := by
  have hw : Region.wanted o (yielded ops a.tmps) = true := by simp [Region.wanted, hgd]
  rw [if_pos hw]
  obtain ⟨A', c', w', hr, h2, h3⟩ := run_append_nilG E W o.type A m c B l hn hp h1 h63 hby
  unfold Oper.wp execOp
  simp only [ho, resolve, invoke, builtin, Sem.run_bind, Sem.run_pure, Result.andThen_ok, List.map_toArray, List.map_cons, List.map_nil, hs, hx, hr]
  exact h A' c' w' h2 h3
set_option maxRecDepth 4000 in
theorem wpList_append_nilG {ts te : TypeId} {size by_ : Nat} (E : ElemG ts te size by_) (W : World) {ops : Array Oper} {rest : List Oper} {o : Oper} {a : Act} {Q : Exit → Act → World → Prop} (hgd : o.guard = none) (s x : Operand)
    (ho : o.op = .call { callee := .builtin .append, args := #[s, x], argTypes := #[ts, ts] }) (hs : a.eval s = .slice none 0 0)
    (A : Option Addr) (m c B : Nat) (l : List Value) (hx : a.eval x = .slice A m c) (hn : l.length = m * size) (hp : VL W B A l) (h1 : ∀ u ∈ l, u.oneCell' = true) (h63 : m ≤ maxLen) (hby : m * by_ ≤ 140737488355328)
    (h : ∀ A' c' w', w'.ownsRow W.heap.size te size (.slice A' m c') m l → W.grownBy w' none → wpList Try.prog ops Q rest (a.put o.dst (.slice A' m c')) w') :
    wpList Try.prog ops Q (o :: rest) a W := by
  refine wpList_plain hgd fun K hK => ?_
  obtain ⟨A', c', w', hr, h2, h3⟩ := run_append_nilG E W o.type A m c B l hn hp h1 h63 hby
  unfold Oper.wp execOp
  simp only [ho, resolve, invoke, builtin, Sem.run_bind, Sem.run_pure, Result.andThen_ok, List.map_toArray, List.map_cons, List.map_nil, hs, hx, hr]
  exact hK _ _ (h A' c' w' h2 h3)
set_option maxRecDepth 4000 in
theorem grown_none {W w' : World} (h : W.grownBy w' none) : Below W.heap.size W w' := ⟨h.os, h.tape, h.output, h.size, fun k hk => h.block k hk (by simp)⟩
set_option maxRecDepth 4000 in
theorem own_vp {t : TypeId} {size n : Nat} {A : Option Addr} {c : Nat} {xs : List Value} {w : World} {base : Nat} (h : w.ownsRow base t size (.slice A n c) n xs) : VP (fun b => base ≤ b ∧ b < w.heap.size) w A xs := fun k u hu => by
  obtain ⟨A', c', e, _, _, hf⟩ := own_free h
  injection e with e1 e2 e3
  subst e1 e3
  obtain ⟨g, e, h1, h2, h3⟩ := hf k u hu
  exact ⟨g, 0, e, ⟨h1, h2⟩, by rw [Nat.zero_add]; exact h3⟩

set_option maxRecDepth 4000 in
theorem own_cap {t : TypeId} {size n : Nat} {A : Option Addr} {c : Nat} {xs : List Value} {w : World} {base : Nat} (h : w.ownsRow base t size (.slice A n c) n xs) : n ≤ c := by
  obtain ⟨A', c', e, h1, _, _⟩ := own_free h
  injection e with e1 e2 e3
  rw [e3]; exact h1
/-- A list that is made anew. -/
def NewV (n : Nat) (xs : List Value) (w : World) (e : Ending) (w' : World) : Prop :=
  ∃ A c, e = .returned (.slice A n c) ∧ VP (fun b => w.heap.size ≤ b ∧ b < w'.heap.size) w' A xs ∧ Below w.heap.size w w' ∧ n ≤ c
/-- The new node's variable: its block, and what its lists hold. -/
def OutN (w : World) (lf : Bool) (ps : List Pr) (tx : List Int) (kids : Value) (s4 : Value) (wx : World) : Prop :=
  ∃ (gO : Nat) (gp : Option Addr) (cp : Nat) (gt : Option Addr) (ct : Nat), s4 = .pointer (some ⟨gO, 0, none⟩) ∧ Below w.heap.size w wx ∧ wx.heap[w.heap.size + 1]? = some (.cells #[.bool false, .slice none 0 0, .slice none 0 0, .slice none 0 0] 27) ∧ w.heap.size + 2 ≤ gO ∧ wx.cell? ⟨w.heap.size, 3, none⟩ = some kids ∧
    wx.heap[gO]? = some (.cells #[.bool lf, .slice gp ps.length cp, .slice gt tx.length ct, .slice none 0 0] 27 (0, 0)) ∧
    VP (fun b => w.heap.size + 2 ≤ b ∧ b < wx.heap.size ∧ b ≠ gO) wx gp (pv ps) ∧ VP (fun b => w.heap.size + 2 ≤ b ∧ b < wx.heap.size ∧ b ≠ gO) wx gt (rv tx) ∧ ps.length ≤ cp ∧ tx.length ≤ ct

set_option maxRecDepth 4000 in
theorem outN_new {w wb W W' w2 w3 : World} {lf : Bool} {ps : List Pr} {tx : List Int} {a b c kids : Value} {gp gt : Option Addr} {cp ct : Nat} (hcp : ps.length ≤ cp) (hct : tx.length ≤ ct)
    (hwb : Below w.heap.size w wb) (hwr : wb.heap[w.heap.size + 1]? = some (.cells #[.bool false, .slice none 0 0, .slice none 0 0, .slice none 0 0] 27)) (hS : Below wb.heap.size wb w3 ∧ w3.cell? ⟨w.heap.size, 0, none⟩ = some a ∧ w3.cell? ⟨w.heap.size, 1, none⟩ = some b ∧ w3.cell? ⟨w.heap.size, 2, none⟩ = some c ∧ w3.cell? ⟨w.heap.size, 3, none⟩ = some kids)
    (hp : VP (fun b => W.heap.size ≤ b ∧ b < w2.heap.size) w2 gp (pv ps)) (ht : VP (fun b => W'.heap.size ≤ b ∧ b < w3.heap.size) w3 gt (rv tx)) (hb : Below w2.heap.size w2 w3) (hW : w.heap.size + 2 ≤ W.heap.size) (hW' : w.heap.size + 2 ≤ W'.heap.size) (h2 : w.heap.size + 2 ≤ w3.heap.size) :
    OutN w lf ps tx kids (.pointer (some ⟨w3.heap.size, 0, none⟩)) (w3.alloc (.cells #[.bool lf, .slice gp ps.length cp, .slice gt tx.length ct, .slice none 0 0] 27)) := by
  have e : ∀ o : Obj, (w3.alloc o).heap.size = w3.heap.size + 1 := fun o => by simp
  have hbs := hb.size
  have hw3 : Below w.heap.size w w3 := hwb.trans (hS.1.mono hwb.size)
  refine ⟨w3.heap.size, gp, cp, gt, ct, rfl, hw3.alloc hw3.size _, (Below.heap_alloc _ _ _ (by omega)).trans ((hS.1.block _ (lt_of_block hwr)).trans hwr), h2, ?_, heap_alloc_new w3 _, ?_, ?_, hcp, hct⟩
  · rw [World.cell?_alloc_lt _ _ _ (cell_in hS.2.2.2.2)]; exact hS.2.2.2.2
  · refine hp.keep (fun b hb => by rw [e]; omega) (fun p hp => ?_)
    have hb3 : Below w2.heap.size w2 (w3.alloc (.cells #[.bool lf, .slice gp ps.length cp, .slice gt tx.length ct, .slice none 0 0] 27)) := hb.alloc hbs _
    exact ⟨hb3.cell hp.2, hb3.frozen hp.2⟩
  · refine ht.keep (fun b hb => by rw [e]; omega) (fun p hp => ?_)
    have hb3 : Below w3.heap.size w3 (w3.alloc (.cells #[.bool lf, .slice gp ps.length cp, .slice gt tx.length ct, .slice none 0 0] 27)) := (Below.refl _ _).alloc (Nat.le_refl _) _
    exact ⟨hb3.cell hp.2, hb3.frozen hp.2⟩
set_option maxRecDepth 4000 in
theorem outN_set {w wb W W' w2 w3 : World} {lf : Bool} {ps : List Pr} {tx : List Int} {a b c kids z0 z1 z2 z3 : Value} {gp gt : Option Addr} {cp ct gO : Nat} (hcp : ps.length ≤ cp) (hct : tx.length ≤ ct)
    (hwb : Below w.heap.size w wb) (hwr : wb.heap[w.heap.size + 1]? = some (.cells #[.bool false, .slice none 0 0, .slice none 0 0, .slice none 0 0] 27)) (hS : Below wb.heap.size wb w3 ∧ w3.cell? ⟨w.heap.size, 0, none⟩ = some a ∧ w3.cell? ⟨w.heap.size, 1, none⟩ = some b ∧ w3.cell? ⟨w.heap.size, 2, none⟩ = some c ∧ w3.cell? ⟨w.heap.size, 3, none⟩ = some kids)
    (hp : VP (fun b => W.heap.size ≤ b ∧ b < w2.heap.size) w2 gp (pv ps)) (ht : VP (fun b => W'.heap.size ≤ b ∧ b < w3.heap.size) w3 gt (rv tx)) (hb : Below w2.heap.size w2 w3) (hO : w3.heap[gO]? = some (.cells #[z0, z1, z2, z3] 27 (0, 0)))
    (h2 : w.heap.size + 2 ≤ gO) (hW : w.heap.size + 2 ≤ W.heap.size) (hW' : w.heap.size + 2 ≤ W'.heap.size) (hn1 : ∀ b, W.heap.size ≤ b → b < w2.heap.size → b ≠ gO) (hn2 : ∀ b, W'.heap.size ≤ b → b ≠ gO) :
    OutN w lf ps tx kids (.pointer (some ⟨gO, 0, none⟩)) ((((w3.setCell ⟨gO, 0, none⟩ (.bool lf)).setCell ⟨gO, 1, none⟩ (.slice gp ps.length cp)).setCell ⟨gO, 2, none⟩ (.slice gt tx.length ct)).setCell ⟨gO, 3, none⟩ (.slice none 0 0)) := by
  have hbs := hb.size
  obtain ⟨wx, hwx⟩ : ∃ wx, wx = ((((w3.setCell ⟨gO, 0, none⟩ (.bool lf)).setCell ⟨gO, 1, none⟩ (.slice gp ps.length cp)).setCell ⟨gO, 2, none⟩ (.slice gt tx.length ct)).setCell ⟨gO, 3, none⟩ (.slice none 0 0)) := ⟨_, rfl⟩
  have e : wx.heap.size = w3.heap.size := by rw [hwx]; simp
  have hblk : ∀ k, k ≠ gO → wx.heap[k]? = w3.heap[k]? := fun k hk => by
    rw [hwx]
    iterate 4 rw [Below.heap_setCell _ _ _ _ (by simpa using hk)]
  have hsame : ∀ p : Addr, p.block ≠ gO → wx.cell? p = w3.cell? p ∧ wx.frozen? p = w3.frozen? p := fun p hp => ⟨World.cell?_of_block (hblk _ hp), World.frozen?_of_block (hblk _ hp)⟩
  have hw3 : Below w.heap.size w w3 := hwb.trans (hS.1.mono hwb.size)
  have hbx : Below w.heap.size w wx := hwx ▸ ((((hw3.setCell (by show _ ≤ gO; omega) _).setCell (by show _ ≤ gO; omega) _).setCell (by show _ ≤ gO; omega) _).setCell (by show _ ≤ gO; omega) _)
  rw [← hwx]
  refine ⟨gO, gp, cp, gt, ct, rfl, hbx, (hblk _ (by omega)).trans ((hS.1.block _ (lt_of_block hwr)).trans hwr), h2, ?_, hwx ▸ set4_block hO, ?_, ?_, hcp, hct⟩
  · rw [(hsame ⟨w.heap.size, 3, none⟩ (by show w.heap.size ≠ gO; omega)).1]; exact hS.2.2.2.2
  · refine hp.keep (fun b hb => by have := hn1 b hb.1 hb.2; rw [e]; omega) (fun p hp => ?_)
    have h3 := hsame p (hn1 _ hp.1 hp.2)
    exact ⟨h3.1.trans (hb.cell hp.2), h3.2.trans (hb.frozen hp.2)⟩
  · refine ht.keep (fun b hb => by have := hn2 b hb.1; rw [e]; omega) (fun p hp => hsame p (hn2 _ hp.1))

set_option maxRecDepth 4000 in
theorem app_far {w4 w6 : World} {o X : Obj} {gO : Nat} {row : Option Nat} (hg : (w4.alloc o).grownBy w6 row) (h : w4.heap[gO]? = some X) (hne : row ≠ some gO) : w6.heap[gO]? = some X := by
  have hl := lt_of_block h
  exact (hg.block gO (by simp; omega) (fun e => hne e.symm)).trans ((Below.heap_alloc w4 o gO hl).trans h)
set_option maxRecDepth 4000 in
theorem build_start {P : Nat → Prop} {wc : World} {base d : Nat} {lf : Bool} {ps : List Pr} {tx : List Int} {gO : Nat} {PA : Option Addr} {pc : Nat} {TA : Option Addr} {tc : Nat} (hbase : base ≤ wc.heap.size) (hlo : base ≤ gO) (hup : ∀ b, base ≤ b → P b)
    (hO : wc.heap[gO]? = some (.cells #[.bool lf, .slice PA ps.length pc, .slice TA tx.length tc, .slice none 0 0] 27 (0, 0))) (hp : VP (fun b => P b ∧ b < wc.heap.size ∧ b ≠ gO) wc PA (pv ps)) (ht : VP (fun b => P b ∧ b < wc.heap.size ∧ b ≠ gO) wc TA (rv tx)) :
    Build P wc base d lf ps tx gO PA pc TA tc (.slice none 0 0) 0 [] [] wc :=
  ⟨Below.refl _ _, hbase, hlo, hup, hO, World.ownsRow_nil _ _ _ _, rfl, rfl, by simp [Value.ownBlock], hp.keep (fun b h => ⟨h.1, h.2.1, h.2.2, by simp [Value.ownBlock]⟩) (fun _ _ => ⟨rfl, rfl⟩), ht.keep (fun b h => ⟨h.1, h.2.1, h.2.2, by simp [Value.ownBlock]⟩) (fun _ _ => ⟨rfl, rfl⟩), fun j m hm => by simp at hm⟩
set_option maxRecDepth 4000 in
theorem TopP.mono {P Q : Nat → Prop} (hPQ : ∀ b, P b → Q b) : ∀ {d : Nat} {w : World} {v : Value} {n : NT}, TopP P d w v n → TopP Q d w v n
  | 0, _, _, _, h => h.elim
  | d + 1, w, v, n, ⟨PA, pc, TA, tc, KA, kc, e, hp, ht, hf, hks⟩ => ⟨PA, pc, TA, tc, KA, kc, e, hp.keep (fun _ h => ⟨hPQ _ h.1, h.2⟩) (fun _ _ => ⟨rfl, rfl⟩), ht.keep (fun _ h => ⟨hPQ _ h.1, h.2⟩) (fun _ _ => ⟨rfl, rfl⟩), hf, fun k m hm => by
      obtain ⟨g, u, e1, hg, ht, hc, hz⟩ := hks k m hm
      exact ⟨g, u, e1, hPQ _ hg, ht.keep (fun _ h => ⟨hPQ _ h.1, h.2⟩) (fun _ _ => ⟨rfl, rfl⟩), hc, hz⟩⟩

end Go.Proofs.Ytdjajpookmmafaa
