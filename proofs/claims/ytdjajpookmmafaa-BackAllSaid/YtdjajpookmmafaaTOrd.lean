/- What the paths of a tree are: how many, in which order, just those at which there is a node, and which of them are leaves'. -/
import Derived.Test.YtdjajpookmmafaaTPths
namespace Go.Proofs.Ytdjajpookmmafaa
open Go.RowKit

mutual
theorem pathsN_shift (lv : Bool) : ∀ (n : NT) (q r : List Int), pathsN lv n (q ++ r) = (pathsN lv n r).map (q ++ ·)
  | .mk lf _ _ ks, q, r => by
    rw [pathsN, pathsN, List.map_append, pathsK_shift lv ks 0 q r]
    congr 1
    split <;> rfl
theorem pathsK_shift (lv : Bool) : ∀ (ks : List NT) (i : Nat) (q r : List Int), pathsK lv ks i (q ++ r) = (pathsK lv ks i r).map (q ++ ·)
  | [], i, q, r => rfl
  | k :: s, i, q, r => by
    rw [pathsK, pathsK, List.map_append, pathsK_shift lv s (i + 1) q r, List.append_assoc, pathsN_shift lv k q (r ++ [(i : Int)])]
end
set_option maxRecDepth 4000 in
theorem pathsN_one (lv : Bool) (n : NT) (i : Nat) : pathsN lv n ([] ++ [(i : Int)]) = (pathsN lv n []).map ((i : Int) :: ·) := by
  have := pathsN_shift lv n [(i : Int)] []
  rw [List.append_nil] at this
  rw [List.nil_append, this]; rfl
set_option maxRecDepth 4000 in
mutual
theorem paths_count : ∀ (n : NT) (q : List Int), (pathsN false n q).length + (textT n).length = sizeT n
  | .mk lf _ tx ks, q => by
    have := pathsK_count ks 0 q
    rw [pathsN, textT, sizeT, List.length_append, List.length_append]
    simp; omega
theorem pathsK_count : ∀ (ks : List NT) (i : Nat) (q : List Int), (pathsK false ks i q).length + (textK ks).length = sizeK ks
  | [], i, q => rfl
  | k :: r, i, q => by
    have h1 := paths_count k (q ++ [(i : Int)])
    have h2 := pathsK_count r (i + 1) q
    rw [pathsK, textK, sizeK, List.length_append, List.length_append]; omega
end
/-- Is there a leaf at the path; the same among Kids that are counted from i on. -/
def leafB (n : NT) (p : List Int) : Bool := match getO n p with
  | some x => x.lf
  | none => false
def kidO (ks : List NT) (i : Nat) : List Int → Option NT
  | [] => none
  | a :: r => if (i : Int) ≤ a then (ks[(a - i).toNat]?).bind fun m => getO m r else none
def leafK (ks : List NT) (i : Nat) (p : List Int) : Bool := match kidO ks i p with
  | some x => x.lf
  | none => false
set_option maxRecDepth 4000 in
theorem getO_kid (n : NT) (a : Int) (r : List Int) : getO n (a :: r) = kidO n.ks 0 (a :: r) := by
  rw [getO_cons]
  unfold kidO kidT
  simp only [Int.natCast_zero, Int.sub_zero]
  split <;> rfl
set_option maxRecDepth 4000 in
theorem kidO_next (k : NT) (s : List NT) (i : Nat) (p : List Int) : kidO (k :: s) i p = match p with
    | [] => none
    | a :: r => if a = (i : Int) then getO k r else kidO s (i + 1) (a :: r) := by
  cases p with
  | nil => rfl
  | cons a r =>
    simp only [kidO]
    by_cases h1 : a = (i : Int)
    · subst h1; simp
    · rw [if_neg h1]
      by_cases h2 : (i : Int) ≤ a
      · rw [if_pos h2, if_pos (by omega), show (a - (i : Int)).toNat = (a - ((i + 1 : Nat) : Int)).toNat + 1 by omega, List.getElem?_cons_succ]
      · rw [if_neg h2, if_neg (by omega)]
set_option maxRecDepth 4000 in
/-- Paths of Kids from i on begin with a number from i on. -/
theorem pathsK_head (lv : Bool) : ∀ (ks : List NT) (i : Nat) (p : List Int), p ∈ pathsK lv ks i [] → ∃ a r, p = a :: r ∧ (i : Int) ≤ a
  | [], i, p => fun h => by cases h
  | k :: s, i, p => fun h => by
    rw [pathsK, List.mem_append] at h
    rcases h with h | h
    · rw [pathsN_one] at h
      obtain ⟨r, _, rfl⟩ := List.mem_map.1 h
      exact ⟨_, _, rfl, Int.le_refl _⟩
    · obtain ⟨a, r, e, ha⟩ := pathsK_head lv s (i + 1) p h
      exact ⟨a, r, e, by omega⟩
set_option maxRecDepth 4000 in
mutual
theorem paths_just : ∀ (n : NT) (p : List Int), p ∈ pathsN false n [] ↔ (getO n p).isSome = true
  | .mk lf ps tx ks, p => by
    rw [pathsN]
    cases p with
    | nil => simp [getO]
    | cons a r =>
      rw [getO_kid]
      have := pathsK_just ks 0 (a :: r)
      simp only [Bool.not_false, Bool.or_true, if_true, List.mem_append, List.mem_singleton, reduceCtorEq, false_or]
      exact this
theorem pathsK_just : ∀ (ks : List NT) (i : Nat) (p : List Int), p ∈ pathsK false ks i [] ↔ (kidO ks i p).isSome = true
  | [], i, p => by
    cases p with
    | nil => simp [pathsK, kidO]
    | cons a r => simp [pathsK, kidO]
  | k :: s, i, p => by
    rw [pathsK, List.mem_append, pathsN_one, pathsK_just s (i + 1) p, kidO_next]
    cases p with
    | nil => simp [kidO]
    | cons a r =>
      simp only
      by_cases h1 : a = (i : Int)
      · subst h1
        rw [if_pos rfl]
        constructor
        · rintro (h | h)
          · obtain ⟨r', h2, h3⟩ := List.mem_map.1 h
            injection h3 with _ h3
            subst h3
            exact (paths_just k r').1 h2
          · exfalso
            simp only [kidO] at h
            rw [if_neg (by omega)] at h
            cases h
        · intro h
          exact .inl (List.mem_map.2 ⟨r, (paths_just k r).2 h, rfl⟩)
      · rw [if_neg h1]
        constructor
        · rintro (h | h)
          · obtain ⟨r', _, h3⟩ := List.mem_map.1 h
            injection h3 with h3 _
            exact absurd h3.symm h1
          · exact h
        · exact fun h => .inr h
end
set_option maxRecDepth 4000 in
theorem filter_eq {α : Type} {f g : α → Bool} {l : List α} (h : ∀ x ∈ l, f x = g x) : l.filter f = l.filter g := List.filter_congr h
set_option maxRecDepth 4000 in
mutual
theorem leaves_are : ∀ (n : NT), pathsN true n [] = (pathsN false n []).filter (leafB n)
  | .mk lf ps tx ks => by
    rw [pathsN, pathsN, pathsK_leaves ks 0, List.filter_append]
    congr 1
    · simp only [Bool.not_true, Bool.or_false, Bool.not_false, Bool.or_true, if_true, List.filter_cons, List.filter_nil]
      show _ = if lf = true then _ else _
      rfl
    · refine filter_eq fun p hp => ?_
      obtain ⟨a, r, rfl, _⟩ := pathsK_head false ks 0 p hp
      unfold leafB leafK
      rw [getO_kid]; rfl
theorem pathsK_leaves : ∀ (ks : List NT) (i : Nat), pathsK true ks i [] = (pathsK false ks i []).filter (leafK ks i)
  | [], i => rfl
  | k :: s, i => by
    rw [pathsK, pathsK, List.filter_append, pathsN_one, pathsN_one, leaves_are k, pathsK_leaves s (i + 1), List.filter_map]
    congr 1
    · congr 1
      refine filter_eq fun p _ => ?_
      show leafB k p = leafK (k :: s) i ((i : Int) :: p)
      unfold leafK leafB
      rw [kidO_next]; simp
    · refine filter_eq fun p hp => ?_
      obtain ⟨a, r, rfl, ha⟩ := pathsK_head false s (i + 1) p hp
      unfold leafK
      rw [kidO_next]
      simp only
      rw [if_neg (by omega)]
end
set_option maxRecDepth 4000 in
mutual
theorem paths_rise : ∀ (n : NT), (pathsN false n []).Pairwise fun a b => cmpL a b = -1
  | .mk lf ps tx ks => by
    rw [pathsN]
    simp only [Bool.not_false, Bool.or_true, if_true, List.singleton_append]
    refine List.pairwise_cons.2 ⟨fun p hp => ?_, pathsK_rise ks 0⟩
    obtain ⟨a, r, rfl, _⟩ := pathsK_head false ks 0 p hp
    simp [cmpL]
theorem pathsK_rise : ∀ (ks : List NT) (i : Nat), (pathsK false ks i []).Pairwise fun a b => cmpL a b = -1
  | [], i => List.Pairwise.nil
  | k :: s, i => by
    rw [pathsK, pathsN_one]
    refine List.pairwise_append.2 ⟨List.pairwise_map.2 ((paths_rise k).imp fun {a b} h => by rw [cmpL]; simpa using h), pathsK_rise s (i + 1), fun a ha b hb => ?_⟩
    obtain ⟨r, _, rfl⟩ := List.mem_map.1 ha
    obtain ⟨x, r', rfl, hx⟩ := pathsK_head false s (i + 1) b hb
    rw [cmpL, if_pos (by omega)]
end

/-- The same, said of numbers in the list. -/
theorem rise_at {n : NT} {i : Nat} (h : i + 1 < (pathsN false n []).length) : cmpL (lAt (pathsN false n []) i) (lAt (pathsN false n []) (i + 1)) = -1 := by
  rw [lAt_eq _ i (by omega), lAt_eq _ (i + 1) h]
  exact List.pairwise_iff_getElem.1 (paths_rise n) i (i + 1) (by omega) h (by omega)
set_option maxRecDepth 4000 in
theorem first_at (n : NT) : 0 < (pathsN false n []).length ∧ lAt (pathsN false n []) 0 = [] := by
  rw [pathsN_eta]
  simp [lAt]
set_option maxRecDepth 4000 in
theorem found_at {n : NT} {i : Nat} (h : i < (pathsN false n []).length) : ∃ x, getO n (lAt (pathsN false n []) i) = some x := by
  have := (paths_just n _).1 (List.getElem_mem h)
  rw [lAt_eq _ i h]
  exact Option.isSome_iff_exists.1 this
/-- How many leaves stand ahead of number i. -/
def leavesTo (n : NT) (i : Nat) : Nat := (((pathsN false n []).take i).filter (leafB n)).length
set_option maxRecDepth 4000 in
theorem leavesTo_step {n : NT} {i : Nat} (h : i < (pathsN false n []).length) : leavesTo n (i + 1) = leavesTo n i + if leafB n (lAt (pathsN false n []) i) = true then 1 else 0 := by
  unfold leavesTo
  rw [List.take_add_one, List.getElem?_eq_getElem h, List.filter_append, List.length_append, lAt_eq _ i h]
  congr 1
  simp only [Option.toList_some, List.filter_cons, List.filter_nil]
  split <;> rfl
set_option maxRecDepth 4000 in
theorem leavesTo_end (n : NT) : leavesTo n (pathsN false n []).length = (pathsN true n []).length := by
  unfold leavesTo; rw [List.take_length, leaves_are]
set_option maxRecDepth 4000 in
theorem leavesTo_at {n : NT} {i : Nat} (h : i < (pathsN false n []).length) (hl : leafB n (lAt (pathsN false n []) i) = true) : leavesTo n i < (pathsN true n []).length ∧ lAt (pathsN true n []) (leavesTo n i) = lAt (pathsN false n []) i := by
  have e : pathsN true n [] = ((pathsN false n []).take i).filter (leafB n) ++ (lAt (pathsN false n []) i :: ((pathsN false n []).drop (i + 1)).filter (leafB n)) := by
    rw [leaves_are]
    conv => lhs; rw [← List.take_append_drop i (pathsN false n []), List.drop_eq_getElem_cons h, List.filter_append, List.filter_cons]
    rw [lAt_eq _ i h] at hl ⊢
    rw [if_pos hl]
  have hlen : (pathsN true n []).length = leavesTo n i + 1 + (((pathsN false n []).drop (i + 1)).filter (leafB n)).length := by
    rw [e]; simp [leavesTo]; omega
  refine ⟨by omega, ?_⟩
  rw [lAt_eq _ _ (by omega)]
  have : (pathsN true n [])[leavesTo n i]? = some (lAt (pathsN false n []) i) := by
    rw [e, List.getElem?_append_right (by unfold leavesTo; exact Nat.le_refl _)]
    simp [leavesTo]
  rw [List.getElem?_eq_getElem (by omega)] at this
  injection this
/-- Has the path been met among the first i. -/
def metTo (n : NT) (q : List Int) (i : Nat) : Bool := ((pathsN false n []).take i).any fun p => samI p q
set_option maxRecDepth 4000 in
theorem metTo_step {n : NT} {q : List Int} {i : Nat} (h : i < (pathsN false n []).length) : metTo n q (i + 1) = (metTo n q i || samI (lAt (pathsN false n []) i) q) := by
  unfold metTo
  rw [List.take_add_one, List.getElem?_eq_getElem h, List.any_append, lAt_eq _ i h]
  simp
set_option maxRecDepth 4000 in
theorem metTo_end (n : NT) (q : List Int) : metTo n q (pathsN false n []).length = (getO n q).isSome := by
  unfold metTo
  rw [List.take_length, Bool.eq_iff_iff, List.any_eq_true, ← paths_just]
  constructor
  · rintro ⟨p, hp, hs⟩
    unfold samI at hs
    rw [← of_decide_eq_true hs]; exact hp
  · intro h
    exact ⟨q, h, by unfold samI; simp⟩

end Go.Proofs.Ytdjajpookmmafaa
