/- Where the texts of a tree's nodes stand in the tree's text: one behind another's beginning, in the order of their paths. The nodes that a tree's paths lead to, in order, are all its nodes. -/
import Derived.Test.YtknkclbjocfhiaaDoorCPlain
import Derived.Test.YtknkclbjocfhiaaDoorTPths
namespace Go.Proofs.YtknkclbjocfhiaaDoor

mutual
/-- All nodes, each before those in it. -/
def subsN : NT → List NT
  | .mk lf ps tx ks => .mk lf ps tx ks :: (if lf then [] else subsK ks)
def subsK : List NT → List NT
  | [] => []
  | k :: r => subsN k ++ subsK r
end
/-- The texts stand in s between f and g, each at or behind the place of the one before. -/
def Spots (s : List UInt8) : Nat → Nat → List (List UInt8) → Prop
  | f, g, [] => f ≤ g
  | f, g, t :: r => ∃ o, f ≤ o ∧ o + t.length ≤ g ∧ (s.drop o).take t.length = t ∧ Spots s o g r
set_option maxRecDepth 4000 in
theorem Spots.le {s : List UInt8} {g : Nat} : ∀ {L : List (List UInt8)} {f : Nat}, Spots s f g L → f ≤ g
  | [], _, h => h
  | _ :: _, _, ⟨_, h1, _, _, h⟩ => Nat.le_trans h1 h.le
set_option maxRecDepth 4000 in
theorem Spots.from {s : List UInt8} {f f' g : Nat} {L : List (List UInt8)} (h : Spots s f g L) (hf : f' ≤ f) : Spots s f' g L := by
  cases L with
  | nil => exact Nat.le_trans hf h
  | cons t r => obtain ⟨o, h1, h2, h3, h4⟩ := h; exact ⟨o, Nat.le_trans hf h1, h2, h3, h4⟩
set_option maxRecDepth 4000 in
theorem Spots.upto {s : List UInt8} {g g' : Nat} (hg : g ≤ g') : ∀ {L : List (List UInt8)} {f : Nat}, Spots s f g L → Spots s f g' L
  | [], _, h => Nat.le_trans h hg
  | _ :: _, _, ⟨o, h1, h2, h3, h⟩ => ⟨o, h1, Nat.le_trans h2 hg, h3, h.upto hg⟩
set_option maxRecDepth 4000 in
theorem Spots.append {s : List UInt8} {g h : Nat} {B : List (List UInt8)} (hB : Spots s g h B) : ∀ {A : List (List UInt8)} {f : Nat}, Spots s f g A → Spots s f h (A ++ B)
  | [], _, hA => hB.from hA
  | _ :: _, _, ⟨o, h1, h2, h3, hA⟩ => ⟨o, h1, Nat.le_trans h2 hB.le, h3, Spots.append hB hA⟩
set_option maxRecDepth 4000 in
theorem spot_at (a t b : List UInt8) : ((a ++ t ++ b).drop a.length).take t.length = t := by
  rw [List.append_assoc, List.drop_left, List.take_left]
set_option maxRecDepth 4000 in
mutual
theorem spotsN : ∀ (n : NT) (a b : List UInt8), Spots (a ++ txtT n ++ b) a.length (a.length + (txtT n).length) ((subsN n).map txtT)
  | .mk lf ps tx ks, a, b => by
    rw [subsN, List.map_cons]
    refine ⟨a.length, Nat.le_refl _, Nat.le_refl _, spot_at a _ b, ?_⟩
    cases lf with
    | true => exact Nat.le_add_right _ _
    | false =>
      have h := spotsK ks (a ++ (propsT ps ++ [91])) ([93] ++ b)
      have e : a ++ (propsT ps ++ [91]) ++ txtK ks ++ ([93] ++ b) = a ++ txtT (.mk false ps tx ks) ++ b := by simp [txtT]
      rw [e] at h
      have hl : (txtT (.mk false ps tx ks)).length = (propsT ps).length + 1 + (txtK ks).length + 1 := by simp [txtT]; omega
      have h2 := (h.from (f' := a.length) (by simp)).upto (g' := a.length + (txtT (.mk false ps tx ks)).length) (by rw [hl]; simp; omega)
      exact h2
theorem spotsK : ∀ (ks : List NT) (a b : List UInt8), Spots (a ++ txtK ks ++ b) a.length (a.length + (txtK ks).length) ((subsK ks).map txtT)
  | [], a, b => Nat.le_add_right _ _
  | k :: r, a, b => by
    have h1 := spotsN k a (txtK r ++ b)
    have h2 := spotsK r (a ++ txtT k) b
    have e1 : a ++ txtT k ++ (txtK r ++ b) = a ++ txtK (k :: r) ++ b := by simp [txtK]
    have e2 : a ++ txtT k ++ txtK r ++ b = a ++ txtK (k :: r) ++ b := by simp [txtK]
    rw [e1] at h1
    rw [e2, List.length_append] at h2
    rw [subsK, List.map_append, txtK, List.length_append, ← Nat.add_assoc]
    have h3 := Spots.append h2 h1
    rw [txtK] at h3
    exact h3
end
set_option maxRecDepth 4000 in
/-- The first place from f on does as well. -/
theorem Spots.first {s t : List UInt8} {r : List (List UInt8)} {f g p : Nat} (h : Spots s f g (t :: r)) (hmin : ∀ o, f ≤ o → (s.drop o).take t.length = t → p ≤ o) : Spots s p g r := by
  obtain ⟨o, h1, _, h3, h4⟩ := h
  exact h4.from (hmin o h1 h3)
set_option maxRecDepth 4000 in
theorem spots_tree (n : NT) : Spots (txtT n) 0 (txtT n).length ((subsN n).map txtT) := by
  have := spotsN n [] []
  simpa using this

end Go.Proofs.YtknkclbjocfhiaaDoor

namespace Go.Proofs.YtknkclbjocfhiaaDoor

theorem getO_app : ∀ (q p : List Int) (R n : NT), getO R q = some n → getO R (q ++ p) = getO n p
  | [], p, R, n, h => by rw [getO] at h; injection h with h; rw [h]; rfl
  | i :: q, p, R, n, h => by
    rw [List.cons_append, getO_cons]
    rw [getO_cons] at h
    cases hk : kidT R i with
    | none => rw [hk] at h; cases h
    | some k => rw [hk] at h; exact getO_app q p k n h
set_option maxRecDepth 4000 in
theorem getO_kid1 {q : List Int} {R n k : NT} {i : Nat} (h : getO R q = some n) (hk : n.ks[i]? = some k) : getO R (q ++ [(i : Int)]) = some k := by
  have e : kidT n (i : Int) = some k := by unfold kidT; rw [if_pos (by omega)]; simpa using hk
  rw [getO_app q _ R n h, getO_cons, e]
  simp [getO]
set_option maxRecDepth 4000 in
theorem leaf_kids {ps : List Pr} {tx : List Int} {ks : List NT} (h : chkT (.mk true ps tx ks) = 0) : ks = [] := by
  rw [chkT] at h
  cases ks with
  | nil => rfl
  | cons k r =>
    exfalso
    unfold oneE at h
    by_cases hc : chk ps = 0
    · simp [hc] at h
    · simp [hc] at h
set_option maxRecDepth 4000 in
theorem chkT_kids {lf : Bool} {ps : List Pr} {tx : List Int} {ks : List NT} (h : chkT (.mk lf ps tx ks) = 0) : chkK ks = 0 := by
  rw [chkT] at h
  by_cases h1 : oneE lf ps tx ks.length = 0
  · rw [if_neg (by simp [h1])] at h; exact h
  · rw [if_pos h1] at h; exact absurd h h1
set_option maxRecDepth 4000 in
theorem chkK_cons {k : NT} {r : List NT} (h : chkK (k :: r) = 0) : chkT k = 0 ∧ chkK r = 0 := by
  rw [chkK] at h
  by_cases h1 : chkT k = 0
  · rw [if_neg (by simp [h1])] at h; exact ⟨h1, h⟩
  · rw [if_pos h1] at h; exact absurd h h1
set_option maxRecDepth 4000 in
mutual
theorem pathsN_subs : ∀ (n R : NT) (q : List Int), chkT n = 0 → getO R q = some n → (pathsN false n q).map (getO R) = (subsN n).map some
  | .mk lf ps tx ks, R, q, hc, h => by
    have hK := pathsK_subs ks R (.mk lf ps tx ks) q 0 (chkT_kids hc) h (by simp [NT.ks])
    rw [pathsN, subsN]
    cases lf with
    | true =>
      obtain rfl := leaf_kids hc
      simp [pathsK, h]
    | false => simp [h, hK]
theorem pathsK_subs : ∀ (ks : List NT) (R n : NT) (q : List Int) (i : Nat), chkK ks = 0 → getO R q = some n → n.ks.drop i = ks → (pathsK false ks i q).map (getO R) = (subsK ks).map some
  | [], _, _, _, _, _, _, _ => by rw [pathsK, subsK]; rfl
  | k :: r, R, n, q, i, hc, h, hd0 => by
    obtain ⟨c1, c2⟩ := chkK_cons hc
    have hk : n.ks[i]? = some k := by
      have := congrArg (fun l => l[0]?) hd0
      simpa using this
    have h1 := pathsN_subs k R (q ++ [(i : Int)]) c1 (getO_kid1 h hk)
    have hr : n.ks.drop (i + 1) = r := by
      rw [show n.ks.drop (i + 1) = (n.ks.drop i).drop 1 by rw [List.drop_drop], hd0]; rfl
    have h2 := pathsK_subs r R n q (i + 1) c2 h hr
    rw [pathsK, subsK, List.map_append, List.map_append, h1, h2]
end
set_option maxRecDepth 4000 in
/-- The k-th path leads to the k-th node. -/
theorem path_sub {n : NT} (hc : chkT n = 0) (k : Nat) (p : List Int) (hp : (pathsN false n [])[k]? = some p) : ∃ m, getO n p = some m ∧ (subsN n)[k]? = some m := by
  have h := congrArg (fun l => l[k]?) (pathsN_subs n n [] hc (by rw [getO]))
  simp only [List.getElem?_map, hp, Option.map_some] at h
  cases hs : (subsN n)[k]? with
  | none => rw [hs] at h; cases h
  | some m => rw [hs] at h; simp only [Option.map_some, Option.some.injEq] at h; exact ⟨m, h, rfl⟩
set_option maxRecDepth 4000 in
mutual
theorem subsN_ok : ∀ (n m : NT), chkT n = 0 → m ∈ subsN n → chkT m = 0
  | .mk lf ps tx ks, m, hc, hm => by
    rw [subsN, List.mem_cons] at hm
    rcases hm with rfl | hm
    · exact hc
    · cases lf with
      | true => cases hm
      | false => exact subsK_ok ks m (chkT_kids hc) hm
theorem subsK_ok : ∀ (ks : List NT) (m : NT), chkK ks = 0 → m ∈ subsK ks → chkT m = 0
  | [], m, _, hm => by cases hm
  | k :: r, m, hc, hm => by
    obtain ⟨c1, c2⟩ := chkK_cons hc
    rw [subsK, List.mem_append] at hm
    rcases hm with hm | hm
    · exact subsN_ok k m c1 hm
    · exact subsK_ok r m c2 hm
end

mutual
theorem subsN_le : ∀ (n m : NT), m ∈ subsN n → sizeT m ≤ sizeT n ∧ weighT m ≤ weighT n
  | .mk lf ps tx ks, m, hm => by
    rw [subsN, List.mem_cons] at hm
    rcases hm with rfl | hm
    · exact ⟨Nat.le_refl _, Nat.le_refl _⟩
    · cases lf with
      | true => cases hm
      | false =>
        have := subsK_le ks m hm
        rw [sizeT, weighT]; omega
theorem subsK_le : ∀ (ks : List NT) (m : NT), m ∈ subsK ks → sizeT m ≤ sizeK ks ∧ weighT m ≤ weighK ks
  | [], m, hm => by cases hm
  | k :: r, m, hm => by
    rw [subsK, List.mem_append] at hm
    rw [sizeK, weighK]
    rcases hm with hm | hm
    · have := subsN_le k m hm; omega
    · have := subsK_le r m hm; omega
end
set_option maxRecDepth 4000 in
/-- What the walk wants of the k-th path and node. -/
theorem part_at {n : NT} (hc0 : chkT n = 0) {k : Nat} {p : List Int} (hp : (pathsN false n [])[k]? = some p) :
    ∃ m, getO n p = some m ∧ (subsN n).drop k = m :: (subsN n).drop (k + 1) ∧ chkT m = 0 ∧ sizeT m ≤ sizeT n ∧ weighT m ≤ weighT n := by
  obtain ⟨m, h1, h2⟩ := path_sub hc0 k p hp
  have hm : m ∈ subsN n := List.mem_of_getElem? h2
  have hk := (List.getElem?_eq_some_iff.1 h2).1
  refine ⟨m, h1, ?_, subsN_ok n m hc0 hm, (subsN_le n m hm).1, (subsN_le n m hm).2⟩
  rw [List.drop_eq_getElem_cons hk]
  congr 1
  exact (List.getElem?_eq_some_iff.1 h2).2

end Go.Proofs.YtknkclbjocfhiaaDoor
