/- Points of a tree: plain functions and facts; the last leaf that stands ahead of a path, the first one that does not; no program is named here. -/
import Derived.Test.YtjolmnghoigggaaTOrd
import Derived.Test.YtjolmnghoigggaaKPts
namespace Go.Proofs.Ytjolmnghoigggaa

def offT (n : NT) (q : List Int) : Int := match getO n q with
  | none => 0
  | some m => m.tx.length
def chkP (n : NT) (p : List Int × Int) : Int := match getO n p.1 with
  | none => 5
  | some m => if m.lf = false then 7 else if p.2 < 0 ∨ (m.tx.length : Int) < p.2 then 8 else 0

/-- Which leaves stand ahead of a path, and are not above it; which do not stand ahead of it. -/
def aheadB (p q : List Int) : Bool := decide (cmpL q p < 0) && !aboveL q p
def fromB (p q : List Int) : Bool := decide (0 ≤ cmpL q p)
def allB (_ : List Int) : Bool := true
/-- The last leaf of these, the first one of these. -/
def LastIs (n : NT) (F : List Int → Bool) : Option (List Int) → Prop
  | none => ∀ z, leafB n z = true → F z = false
  | some q => leafB n q = true ∧ F q = true ∧ ∀ z, leafB n z = true → F z = true → cmpL z q ≤ 0
def FirstIs (n : NT) (F : List Int → Bool) : Option (List Int) → Prop
  | none => ∀ z, leafB n z = true → F z = false
  | some q => leafB n q = true ∧ F q = true ∧ ∀ z, leafB n z = true → F z = true → cmpL q z ≤ 0
set_option maxRecDepth 4000 in
theorem LastIs.same {n : NT} {F : List Int → Bool} {a b : Option (List Int)} (ha : LastIs n F a) (hb : LastIs n F b) : a = b := by
  cases a with
  | none =>
    cases b with
    | none => rfl
    | some q => have := ha q hb.1; rw [hb.2.1] at this; cases this
  | some p =>
    cases b with
    | none => have := hb p ha.1; rw [ha.2.1] at this; cases this
    | some q => rw [cmpL_both (hb.2.2 p ha.1 ha.2.1) (ha.2.2 q hb.1 hb.2.1)]
set_option maxRecDepth 4000 in
theorem FirstIs.same {n : NT} {F : List Int → Bool} {a b : Option (List Int)} (ha : FirstIs n F a) (hb : FirstIs n F b) : a = b := by
  cases a with
  | none =>
    cases b with
    | none => rfl
    | some q => have := ha q hb.1; rw [hb.2.1] at this; cases this
  | some p =>
    cases b with
    | none => have := hb p ha.1; rw [ha.2.1] at this; cases this
    | some q => rw [cmpL_both (ha.2.2 q hb.1 hb.2.1) (hb.2.2 p ha.1 ha.2.1)]

set_option maxRecDepth 4000 in
theorem leafB_nil (n : NT) : leafB n [] = n.lf := rfl
set_option maxRecDepth 4000 in
theorem leafB_kid {n m : NT} {i : Nat} (h : n.ks[i]? = some m) (z : List Int) : leafB n ((i : Int) :: z) = leafB m z := by
  have e : kidT n (i : Int) = some m := by unfold kidT; rw [if_pos (by omega)]; simpa using h
  unfold leafB
  rw [getO_cons, e]; rfl
set_option maxRecDepth 4000 in
theorem offT_kid {n m : NT} {i : Nat} (h : n.ks[i]? = some m) (z : List Int) : offT n ((i : Int) :: z) = offT m z := by
  have e : kidT n (i : Int) = some m := by unfold kidT; rw [if_pos (by omega)]; simpa using h
  unfold offT
  rw [getO_cons, e]; rfl
set_option maxRecDepth 4000 in
theorem leafB_cons {n : NT} {a : Int} {z : List Int} (h : leafB n (a :: z) = true) : ∃ (i : Nat) (m : NT), a = (i : Int) ∧ n.ks[i]? = some m ∧ leafB m z = true := by
  unfold leafB at h
  rw [getO_cons] at h
  cases hk : kidT n a with
  | none => rw [hk] at h; cases h
  | some m =>
    have e := kid_has hk
    refine ⟨a.toNat, m, by omega, e.2.2, ?_⟩
    rw [hk] at h
    exact h
set_option maxRecDepth 4000 in
theorem getO_short : ∀ (p : List Int) (n m : NT), getO n p = some m → p.length + sizeT m ≤ sizeT n
  | [], n, m, h => by rw [getO] at h; injection h with h; rw [h]; simp
  | a :: r, n, m, h => by
    rw [getO_cons] at h
    cases hk : kidT n a with
    | none => rw [hk] at h; cases h
    | some k =>
      rw [hk] at h
      have h1 := getO_short r k m h
      have h2 := sizeT_kid (kid_has hk).2.2
      have h3 : sizeK n.ks < sizeT n := by cases n; rw [sizeT]; simp only [NT.ks]; omega
      simp only [List.length_cons]; omega
set_option maxRecDepth 4000 in
theorem leafB_short {n : NT} {p : List Int} (h : leafB n p = true) : p.length < sizeT n + 1 := by
  unfold leafB at h
  cases hg : getO n p with
  | none => rw [hg] at h; cases h
  | some m => have := getO_short p n m hg; omega

/-! The last leaf ahead of a path: by the Kids, from the last one on. -/
/-- Which of a Kid's leaves are asked for, ahead of x :: r. -/
def kidA (x : Int) (r : List Int) (i : Nat) : List Int → Bool := if (i : Int) = x then aheadB r else allB
set_option maxRecDepth 4000 in
theorem aheadB_nil (q : List Int) : aheadB [] q = false := by
  unfold aheadB
  cases q <;> simp [cmpL]
set_option maxRecDepth 4000 in
theorem aheadB_top (x : Int) (r : List Int) : aheadB (x :: r) [] = false := by
  unfold aheadB aboveL
  simp [alikeN]
set_option maxRecDepth 4000 in
theorem aheadB_kid (x : Int) (r : List Int) (i : Nat) (z : List Int) (h : (i : Int) ≤ x) : aheadB (x :: r) ((i : Int) :: z) = kidA x r i z := by
  unfold kidA
  by_cases e : (i : Int) = x
  · rw [if_pos e, ← e]
    unfold aheadB
    rw [cmpL_cons, aboveL_cons]
  · rw [if_neg e]
    unfold aheadB
    rw [aboveL_ne _ _ e, cmpL, if_pos (by omega)]; rfl
set_option maxRecDepth 4000 in
theorem aheadB_beyond (x : Int) (r : List Int) (i : Nat) (z : List Int) (h : ¬ (i : Int) ≤ x) : aheadB (x :: r) ((i : Int) :: z) = false := by
  unfold aheadB
  rw [cmpL, if_neg (by omega), if_pos (by omega)]; rfl
set_option maxRecDepth 4000 in
theorem ahead_nil (n : NT) : LastIs n (aheadB []) none := fun z _ => aheadB_nil z
set_option maxRecDepth 4000 in
theorem ahead_none {n : NT} {x : Int} {r : List Int} (h : ∀ (i : Nat) (m : NT), (i : Int) ≤ x → n.ks[i]? = some m → LastIs m (kidA x r i) none) : LastIs n (aheadB (x :: r)) none := fun z hz => by
  cases z with
  | nil => exact aheadB_top x r
  | cons a z =>
    obtain ⟨i, m, rfl, hm, hl⟩ := leafB_cons hz
    by_cases hi : (i : Int) ≤ x
    · rw [aheadB_kid x r i z hi]
      exact h i m hi hm z hl
    · exact aheadB_beyond x r i z hi
set_option maxRecDepth 4000 in
theorem ahead_some {n m : NT} {x : Int} {r : List Int} {i : Nat} {q : List Int} (hi : (i : Int) ≤ x) (hm : n.ks[i]? = some m) (hq : LastIs m (kidA x r i) (some q)) (h : ∀ (j : Nat) (k : NT), i < j → (j : Int) ≤ x → n.ks[j]? = some k → LastIs k (kidA x r j) none) : LastIs n (aheadB (x :: r)) (some ((i : Int) :: q)) := by
  refine ⟨by rw [leafB_kid hm]; exact hq.1, by rw [aheadB_kid x r i q hi]; exact hq.2.1, fun z hz ha => ?_⟩
  cases z with
  | nil => rw [aheadB_top] at ha; cases ha
  | cons a z =>
    obtain ⟨j, k, rfl, hk, hl⟩ := leafB_cons hz
    by_cases hj : (j : Int) ≤ x
    · rw [aheadB_kid x r j z hj] at ha
      by_cases hij : i < j
      · have := h j k hij hj hk z hl
        rw [ha] at this; cases this
      · by_cases e : i = j
        · subst e
          rw [hm] at hk
          injection hk with hk
          subst hk
          rw [cmpL_cons]
          exact hq.2.2 z hl ha
        · rw [cmpL, if_pos (by omega)]; omega
    · rw [aheadB_beyond x r j z hj] at ha; cases ha
set_option maxRecDepth 4000 in
/-- All leaves of a node: those ahead of the place behind its Kids, and itself. -/
theorem last_kids {n : NT} {q : List Int} (h : LastIs n (aheadB [(n.ks.length : Int)]) (some q)) : LastIs n allB (some q) := by
  refine ⟨h.1, rfl, fun z hz _ => ?_⟩
  cases z with
  | nil => cases q <;> simp [cmpL]
  | cons a z =>
    refine h.2.2 _ hz ?_
    obtain ⟨i, m, rfl, hm, hl⟩ := leafB_cons hz
    have hi := (List.getElem?_eq_some_iff.1 hm).1
    rw [aheadB_kid _ _ _ _ (by omega)]
    unfold kidA
    rw [if_neg (by omega)]; rfl
set_option maxRecDepth 4000 in
theorem last_self {n : NT} (h : LastIs n (aheadB [(n.ks.length : Int)]) none) : LastIs n allB (if n.lf = true then some [] else none) := by
  have hz : ∀ z, leafB n z = true → z = [] := fun z hz => by
    cases z with
    | nil => rfl
    | cons a z =>
      obtain ⟨i, m, rfl, hm, hl⟩ := leafB_cons hz
      have hi := (List.getElem?_eq_some_iff.1 hm).1
      have := h _ hz
      rw [aheadB_kid _ _ _ _ (by omega)] at this
      unfold kidA at this
      rw [if_neg (by omega)] at this
      cases this
  split
  · rename_i hl
    refine ⟨hl, rfl, fun z h2 _ => ?_⟩
    rw [hz z h2]; decide
  · rename_i hl
    intro z h2
    rw [hz z h2, leafB_nil] at h2
    exact absurd h2 hl

/-! The first leaf from a path on. -/
def kidF (x : Int) (r : List Int) (i : Nat) : List Int → Bool := fromB (if (i : Int) = x then r else [])
set_option maxRecDepth 4000 in
theorem fromB_nil (q : List Int) : fromB [] q = true := by
  unfold fromB
  cases q <;> simp [cmpL]
set_option maxRecDepth 4000 in
theorem fromB_top (x : Int) (r : List Int) : fromB (x :: r) [] = false := by
  unfold fromB
  simp [cmpL]
set_option maxRecDepth 4000 in
theorem fromB_kid (x : Int) (r : List Int) (i : Nat) (z : List Int) (h : x ≤ (i : Int)) : fromB (x :: r) ((i : Int) :: z) = kidF x r i z := by
  unfold kidF
  by_cases e : (i : Int) = x
  · rw [if_pos e, ← e]
    unfold fromB
    rw [cmpL_cons]
  · rw [if_neg e, fromB_nil]
    unfold fromB
    rw [cmpL, if_neg (by omega), if_pos (by omega)]; rfl
set_option maxRecDepth 4000 in
theorem fromB_before (x : Int) (r : List Int) (i : Nat) (z : List Int) (h : ¬ x ≤ (i : Int)) : fromB (x :: r) ((i : Int) :: z) = false := by
  unfold fromB
  rw [cmpL, if_pos (by omega)]; rfl
set_option maxRecDepth 4000 in
theorem from_self {n : NT} (h : n.lf = true) : FirstIs n (fromB []) (some []) := ⟨h, rfl, fun z _ _ => by cases z <;> simp [cmpL]⟩
set_option maxRecDepth 4000 in
theorem from_zero {n : NT} (h : n.lf = false) {o : Option (List Int)} (ho : FirstIs n (fromB [0]) o) : FirstIs n (fromB []) o := by
  have hz : ∀ z, leafB n z = true → fromB [0] z = true := fun z hz => by
    cases z with
    | nil => rw [leafB_nil, h] at hz; cases hz
    | cons a z =>
      obtain ⟨i, m, rfl, hm, hl⟩ := leafB_cons hz
      rw [fromB_kid _ _ _ _ (by omega)]
      unfold kidF
      split <;> exact fromB_nil z
  cases o with
  | none => exact fun z h2 => by have := ho z h2; rw [hz z h2] at this; cases this
  | some q => exact ⟨ho.1, fromB_nil q, fun z h2 _ => ho.2.2 z h2 (hz z h2)⟩
set_option maxRecDepth 4000 in
theorem from_none {n : NT} {x : Int} {r : List Int} (h : ∀ (i : Nat) (m : NT), x ≤ (i : Int) → n.ks[i]? = some m → FirstIs m (kidF x r i) none) : FirstIs n (fromB (x :: r)) none := fun z hz => by
  cases z with
  | nil => exact fromB_top x r
  | cons a z =>
    obtain ⟨i, m, rfl, hm, hl⟩ := leafB_cons hz
    by_cases hi : x ≤ (i : Int)
    · rw [fromB_kid x r i z hi]
      exact h i m hi hm z hl
    · exact fromB_before x r i z hi
set_option maxRecDepth 4000 in
theorem from_some {n m : NT} {x : Int} {r : List Int} {i : Nat} {q : List Int} (hi : x ≤ (i : Int)) (hm : n.ks[i]? = some m) (hq : FirstIs m (kidF x r i) (some q)) (h : ∀ (j : Nat) (k : NT), j < i → x ≤ (j : Int) → n.ks[j]? = some k → FirstIs k (kidF x r j) none) : FirstIs n (fromB (x :: r)) (some ((i : Int) :: q)) := by
  refine ⟨by rw [leafB_kid hm]; exact hq.1, by rw [fromB_kid x r i q hi]; exact hq.2.1, fun z hz ha => ?_⟩
  cases z with
  | nil => rw [fromB_top] at ha; cases ha
  | cons a z =>
    obtain ⟨j, k, rfl, hk, hl⟩ := leafB_cons hz
    by_cases hj : x ≤ (j : Int)
    · rw [fromB_kid x r j z hj] at ha
      by_cases hij : j < i
      · have := h j k hij hj hk z hl
        rw [ha] at this; cases this
      · by_cases e : i = j
        · subst e
          rw [hm] at hk
          injection hk with hk
          subst hk
          rw [cmpL_cons]
          exact hq.2.2 z hl ha
        · rw [cmpL, if_pos (by omega)]; omega
    · rw [fromB_before x r j z hj] at ha; cases ha

/-! The same by the list of the leaves. -/
def lvs (n : NT) : List (List Int) := pathsN true n []
set_option maxRecDepth 4000 in
theorem lvs_mem {n : NT} {z : List Int} : z ∈ lvs n ↔ leafB n z = true := by
  unfold lvs
  rw [leaves_are, List.mem_filter, paths_just]
  refine ⟨fun h => h.2, fun h => ⟨?_, h⟩⟩
  unfold leafB at h
  cases hg : getO n z with
  | none => rw [hg] at h; cases h
  | some m => rfl
set_option maxRecDepth 4000 in
theorem lvs_rise (n : NT) : (lvs n).Pairwise fun a b => cmpL a b = -1 := by
  unfold lvs
  rw [leaves_are]
  exact (paths_rise n).filter _
set_option maxRecDepth 4000 in
theorem lvs_at {n : NT} {i j : Nat} (h : i < j) (hj : j < (lvs n).length) : cmpL (lAt (lvs n) i) (lAt (lvs n) j) = -1 := by
  rw [lAt_eq _ _ (by omega), lAt_eq _ _ hj]
  exact List.pairwise_iff_getElem.1 (lvs_rise n) i j (by omega) hj h
set_option maxRecDepth 4000 in
theorem lvs_leaf {n : NT} {i : Nat} (h : i < (lvs n).length) : leafB n (lAt (lvs n) i) = true := by
  rw [lAt_eq _ _ h, ← lvs_mem]; exact List.getElem_mem _
set_option maxRecDepth 4000 in
theorem lvs_have {n : NT} {z : List Int} (h : leafB n z = true) : ∃ i, i < (lvs n).length ∧ lAt (lvs n) i = z := by
  obtain ⟨i, hi, e⟩ := List.getElem_of_mem (lvs_mem.2 h)
  exact ⟨i, hi, by rw [lAt_eq _ _ hi]; exact e⟩
/-- The last one of the first k leaves, and the first one of them. -/
def lastTo (n : NT) (F : List Int → Bool) : Nat → Option (List Int)
  | 0 => none
  | k + 1 => if F (lAt (lvs n) k) = true then some (lAt (lvs n) k) else lastTo n F k
set_option maxRecDepth 4000 in
theorem lastTo_is {n : NT} {F : List Int → Bool} : ∀ k, k ≤ (lvs n).length → match lastTo n F k with
    | none => ∀ j, j < k → F (lAt (lvs n) j) = false
    | some q => ∃ i, i < k ∧ lAt (lvs n) i = q ∧ F q = true ∧ ∀ j, j < k → i < j → F (lAt (lvs n) j) = false
  | 0, _ => fun j hj => absurd hj (Nat.not_lt_zero _)
  | k + 1, hk => by
    have ih := lastTo_is (n := n) (F := F) k (by omega)
    rw [lastTo]
    by_cases hf : F (lAt (lvs n) k) = true
    · rw [if_pos hf]
      exact ⟨k, by omega, rfl, hf, fun j h1 h2 => by omega⟩
    · rw [if_neg hf]
      have hf' : F (lAt (lvs n) k) = false := by simpa using hf
      cases hl : lastTo n F k with
      | none =>
        rw [hl] at ih
        intro j hj
        rcases (show j < k ∨ j = k by omega) with h | rfl
        · exact ih j h
        · exact hf'
      | some q =>
        rw [hl] at ih
        obtain ⟨i, h1, h2, h3, h4⟩ := ih
        refine ⟨i, by omega, h2, h3, fun j hj hij => ?_⟩
        rcases (show j < k ∨ j = k by omega) with h | rfl
        · exact h4 j h hij
        · exact hf'
set_option maxRecDepth 4000 in
theorem lastTo_all (n : NT) (F : List Int → Bool) : LastIs n F (lastTo n F (lvs n).length) := by
  have h := lastTo_is (n := n) (F := F) _ (Nat.le_refl _)
  cases hl : lastTo n F (lvs n).length with
  | none =>
    rw [hl] at h
    intro z hz
    obtain ⟨i, hi, rfl⟩ := lvs_have hz
    exact h i hi
  | some q =>
    rw [hl] at h
    obtain ⟨i, h1, rfl, h3, h4⟩ := h
    refine ⟨lvs_leaf h1, h3, fun z hz hF => ?_⟩
    obtain ⟨j, hj, rfl⟩ := lvs_have hz
    rcases (show j < i ∨ j = i ∨ i < j by omega) with h | rfl | h
    · rw [lvs_at h h1]; omega
    · rw [cmpL_refl]; omega
    · rw [h4 j hj h] at hF; cases hF
set_option maxRecDepth 4000 in
theorem firstAt {n : NT} {F : List Int → Bool} {k : Nat} (hk : k < (lvs n).length) (hF : F (lAt (lvs n) k) = true) (h : ∀ j, j < k → F (lAt (lvs n) j) = false) : FirstIs n F (some (lAt (lvs n) k)) := by
  refine ⟨lvs_leaf hk, hF, fun z hz h2 => ?_⟩
  obtain ⟨j, hj, rfl⟩ := lvs_have hz
  rcases (show j < k ∨ j = k ∨ k < j by omega) with h3 | rfl | h3
  · rw [h j h3] at h2; cases h2
  · rw [cmpL_refl]; omega
  · rw [lvs_at h3 hj]; omega
set_option maxRecDepth 4000 in
theorem firstNo {n : NT} {F : List Int → Bool} (h : ∀ j, j < (lvs n).length → F (lAt (lvs n) j) = false) : FirstIs n F none := fun z hz => by
  obtain ⟨i, hi, rfl⟩ := lvs_have hz
  exact h i hi
set_option maxRecDepth 4000 in
theorem lvs_first {n : NT} (h : 0 < (lvs n).length) : FirstIs n (fromB []) (some (lAt (lvs n) 0)) := firstAt h (fromB_nil _) fun j hj => by omega
set_option maxRecDepth 4000 in
theorem lvs_last {n : NT} {k : Nat} (h : (lvs n).length = k + 1) : LastIs n allB (some (lAt (lvs n) k)) := by
  refine ⟨lvs_leaf (by omega), rfl, fun z hz _ => ?_⟩
  obtain ⟨j, hj, rfl⟩ := lvs_have hz
  rcases (show j < k ∨ j = k by omega) with h1 | rfl
  · rw [lvs_at (n := n) h1 (by omega)]; omega
  · rw [cmpL_refl]; omega
set_option maxRecDepth 4000 in
theorem lvs_none {n : NT} (h : (lvs n).length = 0) (z : List Int) : leafB n z = false := by
  cases hl : leafB n z with
  | false => rfl
  | true => obtain ⟨i, hi, _⟩ := lvs_have hl; omega

set_option maxRecDepth 4000 in
theorem chkP_leaf {n : NT} {p : List Int × Int} : chkP n p = 0 ↔ leafB n p.1 = true ∧ 0 ≤ p.2 ∧ p.2 ≤ offT n p.1 := by
  unfold chkP leafB offT
  cases getO n p.1 with
  | none => simp
  | some m =>
    simp only
    cases m.lf with
    | false => simp
    | true =>
      simp only [Bool.true_eq_false, if_false, true_and]
      split <;> omega

end Go.Proofs.Ytjolmnghoigggaa
