/- Trees by paths: the node at a path, another one in its place, one put in, one cut out; plain functions and facts, no program is named here. -/
import Derived.Test.YtggapngibkeodaaNTree
import Derived.Test.YtggapngibkeodaaIPath
namespace Go.Proofs.Ytggapngibkeodaa
open Go.RowKit

def zeroT : NT := .mk false [] [] []
/-- Is there a kid of that number, and it. -/
def hasB (n : NT) (i : Int) : Bool := decide (0 ≤ i) && decide (i < n.ks.length)
def kidT (n : NT) (i : Int) : Option NT := if 0 ≤ i then n.ks[i.toNat]? else none
theorem hasB_iff {n : NT} {i : Int} : hasB n i = true ↔ 0 ≤ i ∧ i < n.ks.length := by unfold hasB; simp
theorem kid_some {n : NT} {i : Int} (h : hasB n i = true) : ∃ k, kidT n i = some k := by
  rw [hasB_iff] at h
  unfold kidT; rw [if_pos h.1]
  exact ⟨_, List.getElem?_eq_getElem (by omega)⟩
theorem kid_has {n k : NT} {i : Int} (h : kidT n i = some k) : 0 ≤ i ∧ i < n.ks.length ∧ n.ks[i.toNat]? = some k := by
  unfold kidT at h
  split at h
  · have := (List.getElem?_eq_some_iff.1 h).1
    exact ⟨by assumption, by omega, h⟩
  · cases h
theorem kid_yes {n k : NT} {i : Int} (h : kidT n i = some k) : hasB n i = true := by
  have := kid_has h; rw [hasB_iff]; exact ⟨this.1, this.2.1⟩
theorem kid_none {n : NT} {i : Int} (h : hasB n i = false) : kidT n i = none := by
  cases hk : kidT n i with
  | none => rfl
  | some k => rw [kid_yes hk] at h; cases h
theorem kid_no {n : NT} {i : Int} (h : kidT n i = none) : hasB n i = false := by
  cases hb : hasB n i
  · rfl
  · obtain ⟨k, hk⟩ := kid_some hb; rw [hk] at h; cases h

/-- A list with others in the place of so many from i on. -/
def spl (ks : List NT) (i many : Nat) (o : List NT) : List NT := ks.take i ++ o ++ ks.drop (i + many)
def splT (n : NT) (i many : Nat) (o : List NT) : NT := .mk n.lf n.ps n.tx (spl n.ks i many o)
theorem spl_len {ks : List NT} {i many : Nat} {o : List NT} (h : i + many ≤ ks.length) : (spl ks i many o).length + many = ks.length + o.length := by
  unfold spl; simp only [List.length_append, List.length_take, List.length_drop]; omega
theorem spl_one {ks : List NT} {i : Nat} {k : NT} (h : i < ks.length) : spl ks i 1 [k] = ks.set i k := by
  unfold spl; rw [List.set_eq_take_append_cons_drop, if_pos h]; simp
/-- n with another kid. -/
def setK (n : NT) (i : Nat) (k : NT) : NT := splT n i 1 [k]

/-- The node at a path. -/
def getO : NT → List Int → Option NT
  | n, [] => some n
  | n, i :: r => match kidT n i with
    | none => none
    | some k => getO k r
def getE (n : NT) (p : List Int) : NT × Int := match getO n p with
  | none => (zeroT, 5)
  | some m => (m, 0)
/-- Another node there. -/
def putT : NT → List Int → NT → NT
  | _, [], m => m
  | n, i :: r, m => match kidT n i with
    | none => n
    | some k => setK n i.toNat (putT k r m)
/-- What f makes of the node there. -/
def chgT (f : NT → NT × Int) : NT → List Int → NT × Int
  | n, [] => f n
  | n, i :: r => match kidT n i with
    | none => (zeroT, 5)
    | some k => if (chgT f k r).2 = 0 then (setK n i.toNat (chgT f k r).1, 0) else (zeroT, (chgT f k r).2)
def putF (m : NT) (_ : NT) : NT × Int := (m, 0)
def addF (i : Int) (m n : NT) : NT × Int := if n.lf = true then (zeroT, 7) else if i < 0 ∨ n.ks.length < i then (zeroT, 8) else (splT n i.toNat 0 [m], 0)
def cutF (i : Int) (n : NT) : NT × Int := if hasB n i = true then (splT n i.toNat 1 [], 0) else (zeroT, 5)
/-- p's parent. -/
def upP (p : List Int) : List Int := p.take (p.length - 1)
def putE (n : NT) (p : List Int) (m : NT) : NT × Int := chgT (putF m) n p
def addE (n : NT) (p : List Int) (m : NT) : NT × Int := if p.length = 0 then (zeroT, 6) else chgT (addF (lastL p) m) n (upP p)
def cutE (n : NT) (p : List Int) : NT × Int := if p.length = 0 then (zeroT, 6) else chgT (cutF (lastL p)) n (upP p)
def cutM (n : NT) (p : List Int) : NT := if p.length = 0 then zeroT else (getE n p).1

theorem getO_cons {n : NT} {i : Int} {r : List Int} : getO n (i :: r) = (kidT n i).bind fun k => getO k r := by
  rw [getO]; cases kidT n i <;> rfl
theorem getO_append : ∀ (n : NT) (p q : List Int), getO n (p ++ q) = (getO n p).bind fun m => getO m q
  | n, [], q => rfl
  | n, i :: r, q => by
    rw [List.cons_append, getO_cons, getO_cons]
    cases h : kidT n i with
    | none => rfl
    | some k => exact getO_append k r q
theorem getO_take_step {n m : NT} {p : List Int} {k : Nat} (hk : k < p.length) (h : getO n (p.take k) = some m) : getO n (p.take (k + 1)) = kidT m (iAt p k) := by
  rw [List.take_add_one, List.getElem?_eq_getElem hk, getO_append, h, iAt_eq p k hk]
  show getO m [p[k]] = _
  rw [getO_cons]
  cases kidT m p[k] <;> rfl
theorem getO_stop {n m : NT} {p : List Int} {k : Nat} (hk : k < p.length) (h : getO n (p.take k) = some m) (hn : kidT m (iAt p k) = none) : getO n p = none := by
  rw [← List.take_append_drop (k + 1) p, getO_append, getO_take_step hk h, hn]; rfl
theorem getE_none {n : NT} {p : List Int} (h : getO n p = none) : getE n p = (zeroT, 5) := by unfold getE; rw [h]
theorem getE_some {n m : NT} {p : List Int} (h : getO n p = some m) : getE n p = (m, 0) := by unfold getE; rw [h]

theorem setK_kid {n k : NT} {i : Int} (h : hasB n i = true) : kidT (setK n i.toNat k) i = some k := by
  rw [hasB_iff] at h
  unfold kidT setK splT
  rw [if_pos h.1]
  show (spl n.ks i.toNat 1 [k])[i.toNat]? = _
  rw [spl_one (by omega), List.getElem?_set_self (by omega)]
theorem setK_other {n k : NT} {i j : Int} (h : hasB n i = true) (hj : j ≠ i) : kidT (setK n i.toNat k) j = kidT n j := by
  rw [hasB_iff] at h
  unfold kidT setK splT
  split
  · show (spl n.ks i.toNat 1 [k])[j.toNat]? = _
    rw [spl_one (by omega), List.getElem?_set_ne (by omega)]
  · rfl
theorem setK_ks {n k : NT} {i : Nat} (h : i < n.ks.length) : (setK n i k).ks = n.ks.set i k := spl_one h
theorem setK_setK {n k k' : NT} {i : Nat} (h : i < n.ks.length) : setK (setK n i k) i k' = setK n i k' := by
  have e : (setK n i k).ks = n.ks.set i k := setK_ks h
  show NT.mk _ _ _ (spl (setK n i k).ks i 1 [k']) = NT.mk _ _ _ (spl n.ks i 1 [k'])
  rw [e, spl_one (by simpa using h), spl_one h, List.set_set]; rfl
theorem setK_self {n k : NT} {i : Nat} (h : n.ks[i]? = some k) : setK n i k = n := by
  obtain ⟨h1, h2⟩ := List.getElem?_eq_some_iff.1 h
  show NT.mk _ _ _ (spl n.ks i 1 [k]) = n
  rw [spl_one h1, ← h2, List.set_getElem_self, NT.eta]
theorem setK_hasB {n k : NT} {i : Nat} {j : Int} (h : i < n.ks.length) : hasB (setK n i k) j = hasB n j := by
  unfold hasB; rw [setK_ks h, List.length_set]

theorem get_put : ∀ (n : NT) (p : List Int) (m x : NT), getO n p = some x → getO (putT n p m) p = some m
  | n, [], m, x => fun _ => rfl
  | n, i :: r, m, x => by
    rw [getO_cons, putT]
    cases h : kidT n i with
    | none => intro h2; cases h2
    | some k =>
      intro h2
      show getO (setK n i.toNat (putT k r m)) (i :: r) = _
      rw [getO_cons, setK_kid (kid_yes h)]
      exact get_put k r m x h2
theorem put_put : ∀ (n : NT) (p : List Int) (m m' x : NT), getO n p = some x → putT (putT n p m) p m' = putT n p m'
  | n, [], m, m', x => fun _ => rfl
  | n, i :: r, m, m', x => by
    rw [getO_cons]
    cases h : kidT n i with
    | none => intro h2; cases h2
    | some k =>
      intro h2
      have h3 := kid_has h
      simp only [putT, h, setK_kid (kid_yes h)]
      rw [setK_setK (by omega), put_put k r m m' x h2]
theorem put_get : ∀ (n : NT) (p : List Int) (x : NT), getO n p = some x → putT n p x = n
  | n, [], x => fun h => by injection h with h; rw [putT, h]
  | n, i :: r, x => by
    rw [getO_cons]
    cases h : kidT n i with
    | none => intro h2; cases h2
    | some k =>
      intro h2
      simp only [putT, h]
      rw [put_get k r x h2, setK_self (kid_has h).2.2]
/-- Paths apart: neither is the other one's beginning. -/
theorem get_aside : ∀ (n : NT) (p q : List Int) (m x : NT), getO n p = some x → ¬ p <+: q → ¬ q <+: p → getO (putT n p m) q = getO n q
  | n, [], q, m, x => fun _ h _ => absurd (List.nil_prefix) h
  | n, i :: r, [], m, x => fun _ _ h => absurd (List.nil_prefix) h
  | n, i :: r, j :: s, m, x => by
    intro h0 h1 h2
    rw [getO_cons] at h0
    cases h : kidT n i with
    | none => rw [h] at h0; cases h0
    | some k =>
      rw [h] at h0
      simp only [putT, h]
      rw [getO_cons, getO_cons]
      rcases Classical.em (j = i) with e | e
      · subst e
        rw [setK_kid (kid_yes h), h]
        refine get_aside k r s m x h0 (fun h3 => h1 ?_) (fun h3 => h2 ?_)
        · exact (List.cons_prefix_cons).2 ⟨rfl, h3⟩
        · exact (List.cons_prefix_cons).2 ⟨rfl, h3⟩
      · rw [setK_other (kid_yes h) e]

theorem chg_eq {f : NT → NT × Int} (hf : ∀ a, (f a).2 ≠ 0 → (f a).1 = zeroT) : ∀ (n : NT) (p : List Int), chgT f n p = match getO n p with
    | none => (zeroT, 5)
    | some a => if (f a).2 = 0 then (putT n p (f a).1, 0) else (zeroT, (f a).2)
  | n, [] => by
    show f n = if (f n).2 = 0 then ((f n).1, 0) else (zeroT, (f n).2)
    split
    · rename_i h; rw [← h]
    · rename_i h; rw [← hf n h]
  | n, i :: r => by
    rw [getO_cons, chgT]
    cases h : kidT n i with
    | none => rfl
    | some k =>
      have ih := chg_eq hf k r
      have hp : ∀ m, putT n (i :: r) m = setK n i.toNat (putT k r m) := fun m => by simp only [putT, h]
      simp only [hp, ih, Option.bind_some]
      cases getO k r with
      | none => rfl
      | some a =>
        simp only
        rcases Classical.em ((f a).2 = 0) with h2 | h2
        · simp only [h2, if_true]
        · simp only [h2, if_false]
theorem putF_ok (m : NT) : ∀ a, (putF m a).2 ≠ 0 → (putF m a).1 = zeroT := fun _ h => absurd rfl h
theorem addF_ok (i : Int) (m : NT) : ∀ a, (addF i m a).2 ≠ 0 → (addF i m a).1 = zeroT := fun a h => by
  unfold addF at h ⊢
  split
  · rfl
  · split
    · rfl
    · rename_i h1 h2; rw [if_neg h1, if_neg h2] at h; exact absurd rfl h
theorem cutF_ok (i : Int) : ∀ a, (cutF i a).2 ≠ 0 → (cutF i a).1 = zeroT := fun a h => by
  unfold cutF at h ⊢
  split
  · rename_i h1; rw [if_pos h1] at h; exact absurd rfl h
  · rfl
theorem chg_some {f : NT → NT × Int} (hf : ∀ a, (f a).2 ≠ 0 → (f a).1 = zeroT) {n a : NT} {p : List Int} (h : getO n p = some a) (h0 : (f a).2 = 0) : chgT f n p = (putT n p (f a).1, 0) := by
  rw [chg_eq hf, h]; simp only; rw [if_pos h0]
theorem chg_err {f : NT → NT × Int} (hf : ∀ a, (f a).2 ≠ 0 → (f a).1 = zeroT) {n a : NT} {p : List Int} (h : getO n p = some a) (h0 : (f a).2 ≠ 0) : chgT f n p = (zeroT, (f a).2) := by
  rw [chg_eq hf, h]; simp only; rw [if_neg h0]
theorem chg_none {f : NT → NT × Int} (hf : ∀ a, (f a).2 ≠ 0 → (f a).1 = zeroT) {n : NT} {p : List Int} (h : getO n p = none) : chgT f n p = (zeroT, 5) := by
  rw [chg_eq hf, h]
theorem putE_eq (n : NT) (p : List Int) (m : NT) : putE n p m = match getO n p with
    | none => (zeroT, 5)
    | some _ => (putT n p m, 0) := by
  unfold putE; rw [chg_eq (putF_ok m)]; cases getO n p <;> rfl
theorem last_append {p : List Int} (h : p.length ≠ 0) : upP p ++ [lastL p] = p := by
  unfold upP lastL
  rw [iAt_eq p _ (by omega)]
  have := List.take_append_getElem (l := p) (i := p.length - 1) (by omega)
  rw [this]
  rw [show p.length - 1 + 1 = p.length by omega, List.take_length]
theorem getO_up {n : NT} {p : List Int} (h : p.length ≠ 0) : getO n p = (getO n (upP p)).bind fun a => kidT a (lastL p) := by
  conv => lhs; rw [← last_append h]
  rw [getO_append]
  congr 1
  funext a
  rw [getO_cons]
  cases kidT a (lastL p) <;> rfl

theorem spl_spl {ks : List NT} {i : Nat} {m : NT} (h : i ≤ ks.length) : spl (spl ks i 0 [m]) i 1 [] = ks := by
  unfold spl
  have e : (ks.take i).length = i := by rw [List.length_take]; omega
  rw [Nat.add_zero, List.append_nil, List.append_assoc]
  rw [List.take_append_of_le_length (by omega), List.take_of_length_le (by omega)]
  rw [List.drop_append, e, List.drop_of_length_le (by omega), List.nil_append, show i + 1 - i = 1 by omega]
  simp
theorem spl_back {ks : List NT} {i : Nat} {k : NT} (h : ks[i]? = some k) : spl (spl ks i 1 []) i 0 [k] = ks := by
  obtain ⟨h1, h2⟩ := List.getElem?_eq_some_iff.1 h
  unfold spl
  have e : (ks.take i).length = i := by rw [List.length_take]; omega
  simp only [Nat.add_zero, List.append_nil]
  rw [List.take_append_of_le_length (by omega), List.take_of_length_le (by omega)]
  rw [List.drop_append, e, List.drop_of_length_le (by omega), List.nil_append, Nat.sub_self, List.drop_zero]
  rw [List.append_assoc, List.singleton_append, ← h2, ← List.drop_eq_getElem_cons h1, List.take_append_drop]
theorem spl_mid {ks : List NT} {i : Nat} {m : NT} (h : i ≤ ks.length) : (spl ks i 0 [m])[i]? = some m := by
  unfold spl
  have e : (ks.take i).length = i := by rw [List.length_take]; omega
  rw [Nat.add_zero, List.append_assoc, List.getElem?_append_right (by omega), e, Nat.sub_self]
  rfl

/-- What was added is cut out again. -/
theorem add_cut {n a m : NT} {p : List Int} (h : addE n p m = (a, 0)) : cutE a p = (n, 0) ∧ cutM a p = m := by
  unfold addE at h
  split at h
  · cases h
  · rename_i hp
    unfold cutE cutM
    rw [if_neg hp, if_neg hp]
    cases hg : getO n (upP p) with
    | none => rw [chg_none (addF_ok _ _) hg] at h; cases h
    | some x =>
      rcases Classical.em ((addF (lastL p) m x).2 = 0) with h0 | h0
      · rw [chg_some (addF_ok _ _) hg h0] at h
        injection h with h1 _
        have hx : (addF (lastL p) m x).1 = splT x (lastL p).toNat 0 [m] ∧ 0 ≤ lastL p ∧ lastL p ≤ x.ks.length := by
          unfold addF at h0 ⊢
          split at h0
          · cases h0
          · split at h0
            · cases h0
            · rename_i h2 h3; rw [if_neg h2, if_neg h3]; exact ⟨rfl, by omega, by omega⟩
        obtain ⟨hx1, hx2, hx3⟩ := hx
        rw [hx1] at h1
        have hg2 : getO a (upP p) = some (splT x (lastL p).toNat 0 [m]) := by rw [← h1]; exact get_put n (upP p) _ x hg
        have hk : kidT (splT x (lastL p).toNat 0 [m]) (lastL p) = some m := by
          unfold kidT; rw [if_pos hx2]; exact spl_mid (by omega)
        have hc : cutF (lastL p) (splT x (lastL p).toNat 0 [m]) = (x, 0) := by
          unfold cutF; rw [if_pos (kid_yes hk)]
          congr 1
          show NT.mk _ _ _ (spl (spl x.ks (lastL p).toNat 0 [m]) (lastL p).toNat 1 []) = x
          rw [spl_spl (by omega)]; exact NT.eta x
        constructor
        · rw [chg_some (cutF_ok _) hg2 (by rw [hc]), hc, ← h1, put_put n _ _ _ x hg, put_get n _ x hg]
        · have : getO a p = some m := by rw [getO_up hp, hg2]; exact hk
          rw [getE_some this]
      · rw [chg_err (addF_ok _ _) hg h0] at h
        injection h with _ h2
        exact absurd h2 h0
theorem cut_err {n : NT} {p : List Int} (h : (cutE n p).2 ≠ 0) : (cutE n p).1 = zeroT ∧ cutM n p = zeroT := by
  unfold cutE cutM at *
  split at h
  · rename_i hp; rw [if_pos hp, if_pos hp]; exact ⟨rfl, rfl⟩
  · rename_i hp
    rw [if_neg hp, if_neg hp]
    cases hg : getO n (upP p) with
    | none =>
      rw [chg_none (cutF_ok _) hg]
      have : getO n p = none := by rw [getO_up hp, hg]; rfl
      rw [getE_none this]; exact ⟨rfl, rfl⟩
    | some x =>
      rcases Classical.em ((cutF (lastL p) x).2 = 0) with h0 | h0
      · rw [chg_some (cutF_ok _) hg h0] at h; exact absurd rfl h
      · rw [chg_err (cutF_ok _) hg h0]
        have hb : hasB x (lastL p) = false := by
          unfold cutF at h0
          cases hb : hasB x (lastL p)
          · rfl
          · rw [hb] at h0; exact absurd rfl h0
        have : getO n p = none := by rw [getO_up hp, hg]; exact kid_none hb
        rw [getE_none this]; exact ⟨rfl, rfl⟩
/-- What was cut out of an element is added again. -/
theorem cut_add {n : NT} {p : List Int} (h : (cutE n p).2 = 0) : ∃ x k, p.length ≠ 0 ∧ getO n (upP p) = some x ∧ kidT x (lastL p) = some k ∧ cutM n p = k ∧ (cutE n p).1 = putT n (upP p) (splT x (lastL p).toNat 1 []) ∧
    getO (cutE n p).1 (upP p) = some (splT x (lastL p).toNat 1 []) ∧ (x.lf = false → addE (cutE n p).1 p k = (n, 0)) := by
  unfold cutE cutM at *
  split at h
  · cases h
  · rename_i hp
    rw [if_neg hp, if_neg hp]
    cases hg : getO n (upP p) with
    | none => rw [chg_none (cutF_ok _) hg] at h; cases h
    | some x =>
      rcases Classical.em ((cutF (lastL p) x).2 = 0) with h0 | h0
      · have hb : hasB x (lastL p) = true := by
          unfold cutF at h0
          cases hb : hasB x (lastL p)
          · rw [hb] at h0; cases h0
          · rfl
        obtain ⟨k, hk⟩ := kid_some hb
        have hc : cutF (lastL p) x = (splT x (lastL p).toNat 1 [], 0) := by unfold cutF; rw [if_pos hb]
        have hgp : getO n p = some k := by rw [getO_up hp, hg]; exact hk
        have e : chgT (cutF (lastL p)) n (upP p) = (putT n (upP p) (splT x (lastL p).toNat 1 []), 0) := by rw [chg_some (cutF_ok _) hg h0, hc]
        rw [e]
        have hg2 := get_put n (upP p) (splT x (lastL p).toNat 1 []) x hg
        refine ⟨x, k, hp, rfl, hk, by rw [getE_some hgp], rfl, hg2, fun hl => ?_⟩
        obtain ⟨k1, k2, k3⟩ := kid_has hk
        have ha : addF (lastL p) k (splT x (lastL p).toNat 1 []) = (x, 0) := by
          unfold addF
          rw [if_neg (by show ¬ x.lf = true; rw [hl]; simp)]
          have hlen := spl_len (ks := x.ks) (i := (lastL p).toNat) (many := 1) (o := []) (by omega)
          rw [if_neg (by
            show ¬ (lastL p < 0 ∨ ((spl x.ks (lastL p).toNat 1 []).length : Int) < lastL p)
            simp at hlen
            omega)]
          congr 1
          show NT.mk _ _ _ (spl (spl x.ks (lastL p).toNat 1 []) (lastL p).toNat 0 [k]) = x
          rw [spl_back k3]; exact NT.eta x
        unfold addE
        rw [if_neg hp, chg_some (addF_ok _ _) hg2 (by rw [ha]), ha]
        show (putT (putT n (upP p) _) (upP p) x, (0 : Int)) = _
        rw [put_put n _ _ _ x hg, put_get n _ x hg]
      · rw [chg_err (cutF_ok _) hg h0] at h; exact absurd h h0

/-- Sizes. -/
theorem sizeK_spl {ks : List NT} {i : Nat} {m : NT} (_h : i ≤ ks.length) : sizeK (spl ks i 0 [m]) = sizeK ks + sizeT m := by
  unfold spl
  rw [sizeK_append, sizeK_append, Nat.add_zero]
  have : sizeK ks = sizeK (ks.take i) + sizeK (ks.drop i) := by rw [← sizeK_append, List.take_append_drop]
  simp only [sizeK]
  omega
theorem sizeT_eta (n : NT) : sizeT n = 1 + n.tx.length + sizeK n.ks := by cases n; simp only [sizeT, NT.tx, NT.ks]
theorem sizeK_set {ks : List NT} {i : Nat} {k k' : NT} (h : ks[i]? = some k) : sizeK (ks.set i k') + sizeT k = sizeK ks + sizeT k' := by
  obtain ⟨h1, h2⟩ := List.getElem?_eq_some_iff.1 h
  rw [List.set_eq_take_append_cons_drop, if_pos h1, sizeK_append]
  have e : sizeK ks = sizeK (ks.take i) + sizeK (ks.drop i) := by rw [← sizeK_append, List.take_append_drop]
  rw [drop_one h] at e
  simp only [sizeK] at e ⊢
  omega
theorem size_put : ∀ (n : NT) (p : List Int) (m x : NT), getO n p = some x → sizeT (putT n p m) + sizeT x = sizeT n + sizeT m
  | n, [], m, x => fun h => by injection h with h; rw [putT, h]; omega
  | n, i :: r, m, x => by
    rw [getO_cons]
    cases h : kidT n i with
    | none => intro h2; cases h2
    | some k =>
      intro h2
      simp only [putT, h]
      have ih := size_put k r m x h2
      obtain ⟨k1, k2, k3⟩ := kid_has h
      have h4 := sizeK_set (k' := putT k r m) k3
      rw [sizeT_eta (setK n i.toNat (putT k r m)), sizeT_eta n, setK_ks (by omega)]
      show 1 + n.tx.length + _ + _ = _
      omega
theorem size_add {n a m : NT} {p : List Int} (h : addE n p m = (a, 0)) : sizeT a = sizeT n + sizeT m ∧ ∃ x, p.length ≠ 0 ∧ getO n (upP p) = some x ∧ getO a (upP p) = some (splT x (lastL p).toNat 0 [m]) ∧ (splT x (lastL p).toNat 0 [m]).ks.length = x.ks.length + 1 := by
  unfold addE at h
  split at h
  · cases h
  · rename_i hp
    cases hg : getO n (upP p) with
    | none => rw [chg_none (addF_ok _ _) hg] at h; cases h
    | some x =>
      rcases Classical.em ((addF (lastL p) m x).2 = 0) with h0 | h0
      · rw [chg_some (addF_ok _ _) hg h0] at h
        injection h with h1 _
        have hx : (addF (lastL p) m x).1 = splT x (lastL p).toNat 0 [m] ∧ 0 ≤ lastL p ∧ lastL p ≤ x.ks.length := by
          unfold addF at h0 ⊢
          split at h0
          · cases h0
          · split at h0
            · cases h0
            · rename_i h2 h3; rw [if_neg h2, if_neg h3]; exact ⟨rfl, by omega, by omega⟩
        obtain ⟨hx1, hx2, hx3⟩ := hx
        rw [hx1] at h1
        have h5 := size_put n (upP p) (splT x (lastL p).toNat 0 [m]) x hg
        rw [h1] at h5
        have h6 : sizeT (splT x (lastL p).toNat 0 [m]) = sizeT x + sizeT m := by
          rw [sizeT_eta, sizeT_eta x]
          show 1 + x.tx.length + sizeK (spl x.ks _ 0 [m]) = _
          rw [sizeK_spl (by omega)]; omega
        refine ⟨by omega, x, hp, rfl, by rw [← h1]; exact get_put n _ _ x hg, ?_⟩
        have := spl_len (ks := x.ks) (i := (lastL p).toNat) (many := 0) (o := [m]) (by omega)
        simp at this
        exact this
      · rw [chg_err (addF_ok _ _) hg h0] at h
        injection h with _ h2
        exact absurd h2 h0

end Go.Proofs.Ytggapngibkeodaa
