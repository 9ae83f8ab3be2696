/- Paths as lists of numbers: plain functions and facts; no program is named here. Slices of numbers in memory: what a slice's cells hold, carried over whatever leaves old blocks as they were; rows of the call's own_i. alike, Check, Same, Above, Left and Compare, and the document's own_i, answer what the plain functions say; memory stays as it was. Same and Above, and the document's own_i, answer how two paths stand; memory stays as it was. Compare, the library's and the document's, answers the order of two paths; memory stays as it was. Rows of the call's own_i: a copy, a path beside one; and the calls that tell a parent, the next one, the one back. beside, Parent, Next and Back, and the document's own_i. Left, and the document's, answers whether one path stands left of another one; memory stays as it was. Levels and the document's; SameAll: lists of paths in memory. -/
import Derived.Laws.Strings
import Derived.Test.YtdjajpookmmafaaGMem
import Derived.Test.YtdjajpookmmafaaPBase
import Derived.Laws.AppendOwnNone
import Derived.IntWalk
namespace Go.Proofs.Ytdjajpookmmafaa

def iAt (l : List Int) (k : Nat) : Int := l.getD k 0
set_option maxRecDepth 4000 in
theorem iAt_eq (l : List Int) (k : Nat) (hk : k < l.length) : iAt l k = l[k] := by
  unfold iAt; rw [List.getD_eq_getElem?_getD, List.getElem?_eq_getElem hk]; rfl

/-- How many numbers both begin with. -/
def alikeN : List Int → List Int → Nat
  | x :: a, y :: b => if x = y then alikeN a b + 1 else 0
  | _, _ => 0

set_option maxRecDepth 4000 in
theorem alikeN_le : ∀ a b : List Int, alikeN a b ≤ a.length ∧ alikeN a b ≤ b.length
  | [], _ => by simp [alikeN]
  | _ :: _, [] => by simp [alikeN]
  | x :: a, y :: b => by
    have := alikeN_le a b
    unfold alikeN
    split <;> simp <;> omega

set_option maxRecDepth 4000 in
theorem alikeN_same : ∀ (a b : List Int) (j : Nat), j < alikeN a b → iAt a j = iAt b j
  | [], _, j => by simp [alikeN]
  | _ :: _, [], j => by simp [alikeN]
  | x :: a, y :: b, j => by
    unfold alikeN
    split
    · rename_i h
      intro hj
      cases j with
      | zero => simpa [iAt] using h
      | succ j => simpa [iAt] using alikeN_same a b j (by omega)
    · intro hj; omega

set_option maxRecDepth 4000 in
theorem alikeN_of : ∀ (a b : List Int) (k : Nat), k ≤ a.length → k ≤ b.length → (∀ j, j < k → iAt a j = iAt b j) → (k < a.length → k < b.length → iAt a k ≠ iAt b k) → alikeN a b = k
  | [], b, k => by intro h; simp [alikeN] at *; omega
  | _ :: _, [], k => by intro _ h; simp [alikeN] at *; omega
  | x :: a, y :: b, k => by
    intro h1 h2 h3 h4
    unfold alikeN
    cases k with
    | zero => rw [if_neg (by simpa [iAt] using h4 (by simp) (by simp))]
    | succ k =>
      rw [if_pos (by simpa [iAt] using h3 0 (by omega))]
      rw [alikeN_of a b k (by simpa using h1) (by simpa using h2) (fun j hj => by simpa [iAt] using h3 (j + 1) (by omega)) (fun g1 g2 => by simpa [iAt] using h4 (by simpa using g1) (by simpa using g2))]

set_option maxRecDepth 4000 in
theorem alikeN_ne : ∀ a b : List Int, alikeN a b < a.length → alikeN a b < b.length → iAt a (alikeN a b) ≠ iAt b (alikeN a b)
  | [], _ => by simp [alikeN]
  | _ :: _, [] => by simp [alikeN]
  | x :: a, y :: b => by
    unfold alikeN
    split
    · rename_i h
      intro h1 h2
      simpa [iAt] using alikeN_ne a b (by simpa using h1) (by simpa using h2)
    · rename_i h
      intro _ _
      simpa [iAt] using h

set_option maxRecDepth 4000 in
theorem alikeN_comm (a b : List Int) : alikeN a b = alikeN b a :=
  alikeN_of a b _ (alikeN_le b a).2 (alikeN_le b a).1 (fun j hj => (alikeN_same b a j hj).symm) (fun h1 h2 => (alikeN_ne b a h2 h1).symm)

set_option maxRecDepth 4000 in
theorem alikeN_take (a b : List Int) : a.take (alikeN a b) = b.take (alikeN a b) := by
  have hl := alikeN_le a b
  apply List.ext_getElem
  · simp; omega
  · intro i h1 h2
    have hi : i < alikeN a b := by simp at h1; omega
    have := alikeN_same a b i hi
    rw [iAt_eq a i (by omega), iAt_eq b i (by omega)] at this
    simpa using this

set_option maxRecDepth 4000 in
theorem alikeN_prefix (a b : List Int) : alikeN a b = a.length ↔ a <+: b := by
  constructor
  · intro h
    have := alikeN_take a b
    rw [h, List.take_length] at this
    rw [this]
    exact List.take_prefix _ _
  · rintro ⟨c, rfl⟩
    refine alikeN_of a (a ++ c) _ (Nat.le_refl _) (by simp) (fun j hj => ?_) (fun h => absurd h (by omega))
    rw [iAt_eq a j hj, iAt_eq (a ++ c) j (by simp; omega), List.getElem_append_left hj]

set_option maxRecDepth 4000 in
theorem alikeN_eq (a b : List Int) (h : a.length = b.length) : alikeN a b = a.length ↔ a = b := by
  rw [alikeN_prefix]
  constructor
  · intro hp; exact hp.eq_of_length h
  · rintro rfl; exact List.prefix_refl _
set_option maxRecDepth 4000 in
theorem alikeN_self (a : List Int) : alikeN a a = a.length := (alikeN_prefix a a).2 (List.prefix_refl _)

def checkL (a : List Int) : Int := if a.all (fun n => decide (0 ≤ n)) then 0 else 5
def cmpI (a b : Int) : Int := if a < b then -1 else if b < a then 1 else 0
def cmpL : List Int → List Int → Int
  | [], [] => 0
  | [], _ :: _ => -1
  | _ :: _, [] => 1
  | x :: a, y :: b => if x < y then -1 else if y < x then 1 else cmpL a b
def samI (a b : List Int) : Bool := decide (a = b)
def aboveL (a b : List Int) : Bool := decide (a.length < b.length) && decide (alikeN a b = a.length)
def leftL (a b : List Int) : Bool := decide (alikeN a b + 1 = a.length) && decide (alikeN a b < b.length) && decide (iAt a (alikeN a b) < iAt b (alikeN a b))

set_option maxRecDepth 4000 in
theorem cmpL_in : ∀ a b : List Int, alikeN a b < a.length → alikeN a b < b.length → cmpL a b = cmpI (iAt a (alikeN a b)) (iAt b (alikeN a b))
  | [], _ => by simp [alikeN]
  | _ :: _, [] => by simp [alikeN]
  | x :: a, y :: b => by
    unfold alikeN cmpL
    split
    · rename_i h
      subst h
      intro h1 h2
      rw [if_neg (by omega), if_neg (by omega)]
      simpa [iAt] using cmpL_in a b (by simpa using h1) (by simpa using h2)
    · intro _ _
      simp only [cmpI, iAt, List.getD_cons_zero]
      split
      · rfl
      · rw [if_pos (by omega)]
        split
        · rfl
        · omega
set_option maxRecDepth 4000 in
theorem cmpL_out : ∀ a b : List Int, alikeN a b = a.length ∨ alikeN a b = b.length → cmpL a b = cmpI a.length b.length
  | [], [] => by simp [cmpL, cmpI]
  | [], y :: b => by intro _; simp [cmpL, cmpI]
  | x :: a, [] => by intro _; simp [cmpL, cmpI]; omega
  | x :: a, y :: b => by
    unfold alikeN cmpL
    split
    · rename_i h
      subst h
      intro h1
      rw [if_neg (by omega), if_neg (by omega), cmpL_out a b (by simpa using h1)]
      simp [cmpI]
    · intro h; simp at h

set_option maxRecDepth 4000 in
theorem cmpL_trans : ∀ a b c : List Int, cmpL a b ≤ 0 → cmpL b c ≤ 0 → cmpL a c ≤ 0
  | [], b, [] => by simp [cmpL]
  | [], b, z :: c => by intro _ _; simp [cmpL]
  | x :: a, [], c => by intro h; simp [cmpL] at h
  | x :: a, y :: b, [] => by intro _ h; simp [cmpL] at h
  | x :: a, y :: b, z :: c => by
    unfold cmpL
    intro h1 h2
    by_cases e1 : x < y
    · by_cases e2 : y < z
      · rw [if_pos (by omega)]; decide
      · rw [if_neg e2] at h2
        by_cases e3 : z < y
        · rw [if_pos e3] at h2; omega
        · rw [if_pos (by omega)]; decide
    · rw [if_neg e1] at h1
      by_cases e1' : y < x
      · rw [if_pos e1'] at h1; omega
      · rw [if_neg e1'] at h1
        by_cases e2 : y < z
        · rw [if_pos (by omega)]; decide
        · rw [if_neg e2] at h2
          by_cases e3 : z < y
          · rw [if_pos e3] at h2; omega
          · rw [if_neg e3] at h2
            rw [if_neg (by omega), if_neg (by omega)]
            exact cmpL_trans a b c h1 h2

set_option maxRecDepth 4000 in
theorem aboveL_iff (a b : List Int) : aboveL a b = true ↔ a.length < b.length ∧ a <+: b := by
  unfold aboveL; rw [Bool.and_eq_true, decide_eq_true_iff, decide_eq_true_iff, alikeN_prefix]
set_option maxRecDepth 4000 in
theorem aboveL_trans (a b c : List Int) (h1 : aboveL a b = true) (h2 : aboveL b c = true) : aboveL a c = true := by
  rw [aboveL_iff] at *
  exact ⟨by omega, h1.2.trans h2.2⟩
set_option maxRecDepth 4000 in
theorem leftL_iff (a b : List Int) : leftL a b = true ↔ alikeN a b + 1 = a.length ∧ alikeN a b < b.length ∧ iAt a (alikeN a b) < iAt b (alikeN a b) := by
  unfold leftL; simp only [Bool.and_eq_true, decide_eq_true_iff, and_assoc]
set_option maxRecDepth 4000 in
theorem prefix_at {a b : List Int} (h : a <+: b) {j : Nat} (hj : j < a.length) : iAt a j = iAt b j := by
  obtain ⟨c, rfl⟩ := h
  rw [iAt_eq a j hj, iAt_eq (a ++ c) j (by simp; omega), List.getElem_append_left hj]
set_option maxRecDepth 4000 in
theorem leftL_above (a b c : List Int) (h1 : leftL a b = true) (h2 : aboveL b c = true) : leftL a c = true := by
  rw [aboveL_iff] at h2
  obtain ⟨h3, h4⟩ := h2
  rw [leftL_iff] at *
  obtain ⟨g1, g2, g3⟩ := h1
  have e : alikeN a c = alikeN a b := alikeN_of a c _ (by omega) (by omega) (fun j hj => (alikeN_same a b j hj).trans (prefix_at h4 (by omega))) (fun _ _ => by rw [← prefix_at h4 g2]; omega)
  rw [e]
  exact ⟨g1, by omega, by rw [← prefix_at h4 g2]; exact g3⟩

/-- The path beside one, by its last number. -/
def sib (l : List Int) (v : Int) : List Int := l.set (l.length - 1) v
def lastL (l : List Int) : Int := iAt l (l.length - 1)
def parentL (l : List Int) : List Int × Int := if l.length = 0 then ([], 6) else (l.take (l.length - 1), 0)
def nextL (l : List Int) : List Int × Int := if l.length = 0 then ([], 6) else if lastL l = 9223372036854775807 then ([], 8) else (sib l (lastL l + 1), 0)
def backL (l : List Int) : List Int × Int := if l.length = 0 then ([], 6) else if lastL l ≤ 0 then ([], 8) else (sib l (lastL l - 1), 0)
def levelsL (l : List Int) : List (List Int) := (List.range (l.length + 1)).map fun n => l.take n

set_option maxRecDepth 4000 in
theorem sib_length (l : List Int) (v : Int) : (sib l v).length = l.length := by simp [sib]
set_option maxRecDepth 4000 in
theorem sib_last (l : List Int) (v : Int) (h : l.length ≠ 0) : lastL (sib l v) = v := by
  unfold lastL; rw [sib_length, iAt_eq _ _ (by rw [sib_length]; omega)]; simp [sib]
set_option maxRecDepth 4000 in
theorem sib_other (l : List Int) (v : Int) (j : Nat) (h : j + 1 < l.length) : iAt (sib l v) j = iAt l j := by
  rw [iAt_eq _ _ (by rw [sib_length]; omega), iAt_eq _ _ (by omega)]
  simp only [sib]
  rw [List.getElem_set_ne (by omega)]
set_option maxRecDepth 4000 in
theorem sib_take (l : List Int) (v : Int) : (sib l v).take (l.length - 1) = l.take (l.length - 1) := by
  unfold sib
  rw [List.take_set, List.set_eq_of_length_le (by simp)]
set_option maxRecDepth 4000 in
theorem sib_sib (l : List Int) (u v : Int) : sib (sib l u) v = sib l v := by
  unfold sib; rw [List.length_set, List.set_set]
set_option maxRecDepth 4000 in
theorem sib_self (l : List Int) : sib l (lastL l) = l := by
  unfold sib lastL
  apply List.ext_getElem
  · simp
  · intro i h1 h2
    by_cases e : l.length - 1 = i
    · subst e; rw [List.getElem_set_self, iAt_eq _ _ h2]
    · rw [List.getElem_set_ne e]
set_option maxRecDepth 4000 in
theorem left_sib (l : List Int) (v : Int) (h : l.length ≠ 0) (hv : lastL l < v) : leftL l (sib l v) = true := by
  have hs := sib_last l v h
  unfold lastL at hs hv
  rw [sib_length] at hs
  have e : alikeN l (sib l v) = l.length - 1 := alikeN_of _ _ _ (by omega) (by rw [sib_length]; omega) (fun j hj => (sib_other l v j (by omega)).symm) (fun _ _ => by rw [hs]; omega)
  rw [leftL_iff, e]
  exact ⟨by omega, by rw [sib_length]; omega, by rw [hs]; exact hv⟩

set_option maxRecDepth 4000 in
theorem take_above (l : List Int) (n : Nat) (h : n < l.length) : aboveL (l.take n) l = true := by
  rw [aboveL_iff]; exact ⟨by simp; omega, List.take_prefix _ _⟩
set_option maxRecDepth 4000 in
theorem levelsL_length (l : List Int) : (levelsL l).length = l.length + 1 := by simp [levelsL]

set_option maxRecDepth 4000 in
/-- How far a's levels are b's as well. -/
theorem level_is (a b : List Int) (n : Nat) (hn : n ≤ a.length) : (samI (a.take n) b || aboveL (a.take n) b) = decide (n ≤ alikeN a b) := by
  rw [Bool.eq_iff_iff, Bool.or_eq_true, decide_eq_true_iff, aboveL_iff]
  unfold samI
  rw [decide_eq_true_iff]
  have hl := alikeN_le a b
  constructor
  · intro h
    have hp : a.take n <+: b := by
      rcases h with h | h
      · rw [h]; exact List.prefix_refl _
      · exact h.2
    have h2 : n ≤ b.length := by have := hp.length_le; simp at this; omega
    rcases Nat.lt_or_ge (alikeN a b) n with hlt | hge
    · exfalso
      refine alikeN_ne a b (by omega) (by omega) ?_
      have := prefix_at hp (j := alikeN a b) (by simp; omega)
      rw [← this, iAt_eq (a.take n) (alikeN a b) (by simp; omega), iAt_eq a (alikeN a b) (by omega)]
      simp
    · exact hge
  · intro h
    have hp : a.take n <+: b := by
      have e : a.take n = b.take n := by
        have := congrArg (List.take n) (alikeN_take a b)
        simpa [List.take_take, Nat.min_eq_left h] using this
      rw [e]; exact List.take_prefix _ _
    by_cases e : n = b.length
    · left
      exact hp.eq_of_length (by simp; omega)
    · right
      exact ⟨by simp; omega, hp⟩

end Go.Proofs.Ytdjajpookmmafaa

namespace Go.Proofs.Ytdjajpookmmafaa
open Go.RowKit
open Go.WideShapes (add_plain)

/-- The slice at A holds the numbers l, below block B. -/
def IL (w : World) (B : Nat) (A : Option Addr) (l : List Int) : Prop :=
  l ≠ [] → ∃ b o, A = some ⟨b, o, none⟩ ∧ b < B ∧ ∀ k, k < l.length → w.cell? ⟨b, o + k, none⟩ = some (.int .i64 (iAt l k))

set_option maxRecDepth 4000 in
theorem IL.keep {w w' : World} {B : Nat} {A : Option Addr} {l : List Int} (h : IL w B A l) (hk : ∀ p : Addr, p.block < B → w'.cell? p = w.cell? p) : IL w' B A l := fun hn => by
  obtain ⟨b, o, e, hb, hc⟩ := h hn
  exact ⟨b, o, e, hb, fun k hkl => (hk _ hb).trans (hc k hkl)⟩
set_option maxRecDepth 4000 in
theorem IL.below {w w' : World} {B : Nat} {A : Option Addr} {l : List Int} (h : IL w B A l) (hb : Below B w w') : IL w' B A l := h.keep fun _ hp => hb.cell hp
set_option maxRecDepth 4000 in
theorem IL.drewN {w : World} {B : Nat} {A : Option Addr} {l : List Int} (h : IL w B A l) (n : Nat) : IL (w.drewN n) B A l := h
set_option maxRecDepth 4000 in
theorem IL.more {w : World} {B B' : Nat} {A : Option Addr} {l : List Int} (h : IL w B A l) (hB : B ≤ B') : IL w B' A l := fun hn => by
  obtain ⟨b, o, e, hb, hc⟩ := h hn
  exact ⟨b, o, e, by omega, hc⟩
set_option maxRecDepth 4000 in
theorem IL.later {w w' : World} {A : Option Addr} {l : List Int} (h : IL w w.heap.size A l) (hb : Below w.heap.size w w') : IL w' w'.heap.size A l := (h.below hb).more hb.size
set_option maxRecDepth 4000 in
theorem IL.at_ {w : World} {B : Nat} {A : Option Addr} {l : List Int} (h : IL w B A l) {k : Nat} (hk : k < l.length) : ∃ b o, A = some ⟨b, o, none⟩ ∧ b < B ∧ w.cell? ⟨b, o + k, none⟩ = some (.int .i64 (iAt l k)) := by
  obtain ⟨b, o, e, hb, hc⟩ := h (by intro e; subst e; simp at hk)
  exact ⟨b, o, e, hb, hc k hk⟩
set_option maxRecDepth 4000 in
theorem IL.nil (w : World) (B : Nat) (A : Option Addr) : IL w B A [] := fun h => absurd rfl h
set_option maxRecDepth 4000 in
theorem IL.take {w : World} {B : Nat} {A : Option Addr} {l : List Int} (h : IL w B A l) (n : Nat) : IL w B A (l.take n) := fun hn => by
  obtain ⟨b, o, e, hb, hc⟩ := h (by rintro rfl; simp at hn)
  refine ⟨b, o, e, hb, fun k hk => ?_⟩
  have hk' : k < n ∧ k < l.length := by rw [List.length_take] at hk; omega
  rw [hc k hk'.2, iAt_eq _ k hk, iAt_eq _ k hk'.2]
  simp

/-- The value v is a row of the call's own_i (blocks from b on), that holds l. -/
def OwnI (w : World) (b : Nat) (v : Value) (l : List Int) : Prop :=
  ∃ (A : Option Addr) (c : Nat), v = .slice A l.length c ∧ l.length ≤ c ∧ c ≤ maxLen ∧ w.ownsRow b 3 1 v l.length (l.map (Value.int .i64))

set_option maxRecDepth 4000 in
theorem OwnI.of_own {w : World} {b n : Nat} {v : Value} {l : List Int} (h : w.ownsRow b 3 1 v n (l.map (Value.int .i64))) (hn : n = l.length) : OwnI w b v l := by
  subst hn
  rcases h.2 with ⟨e, h0⟩ | ⟨g, cap, cur, e, _, _, h3, h4, _⟩
  · exact ⟨none, 0, by rw [e, h0], by omega, by unfold maxLen; omega, h⟩
  · exact ⟨some ⟨g, 0, none⟩, cap, e, h3, h4, h⟩
set_option maxRecDepth 4000 in
theorem OwnI.own {w : World} {b : Nat} {v : Value} {l : List Int} (h : OwnI w b v l) : w.ownsRow b 3 1 v l.length (l.map (Value.int .i64)) := by
  obtain ⟨_, _, _, _, _, h⟩ := h
  exact h
set_option maxRecDepth 4000 in
theorem OwnI.nil (w : World) (b : Nat) : OwnI w b (.slice none 0 0) [] := OwnI.of_own (World.ownsRow_nil w b 3 1) rfl
set_option maxRecDepth 4000 in
theorem OwnI.lt {w : World} {b : Nat} {v : Value} {l : List Int} (h : OwnI w b v l) {j : Nat} (hj : v.ownBlock = some j) : b ≤ j ∧ j < w.heap.size := h.own.lt j hj
set_option maxRecDepth 4000 in
theorem OwnI.below {w w' : World} {b : Nat} {v : Value} {l : List Int} (h : OwnI w b v l) (hb : Below w.heap.size w w') : OwnI w' b v l := by
  obtain ⟨A, c, e, h1, h2, h3⟩ := h
  refine ⟨A, c, e, h1, h2, h3.1, ?_⟩
  rcases h3.2 with h4 | ⟨g, cap, cur, e2, hbg, hg, rest⟩
  · exact .inl h4
  · refine .inr ⟨g, cap, cur, e2, hbg, ?_, rest⟩
    rw [hb.block g (Array.getElem?_eq_some_iff.1 hg).1]
    exact hg
set_option maxRecDepth 4000 in
theorem OwnI.weaken {w : World} {b b' : Nat} {v : Value} {l : List Int} (h : OwnI w b v l) (hb : b' ≤ b) : OwnI w b' v l := by
  obtain ⟨A, c, e, h1, h2, h3⟩ := h
  refine ⟨A, c, e, h1, h2, h3.1, ?_⟩
  rcases h3.2 with h4 | ⟨g, cap, cur, e2, hbg, rest⟩
  · exact .inl h4
  · exact .inr ⟨g, cap, cur, e2, by omega, rest⟩
set_option maxRecDepth 4000 in
theorem OwnI.open_ {w : World} {b : Nat} {v : Value} {l : List Int} (h : OwnI w b v l) : ∃ (A : Option Addr) (c : Nat), v = .slice A l.length c ∧ l.length ≤ c ∧ c ≤ maxLen ∧ IL w w.heap.size A l := by
  obtain ⟨A, c, e, h1, h2, h3⟩ := h
  refine ⟨A, c, e, h1, h2, fun hn => ?_⟩
  have hl : 0 < l.length := List.length_pos_iff.2 hn
  rcases h3.2 with ⟨_, h0⟩ | ⟨g, cap, cur, e2, hbg, hg, _⟩
  · omega
  · have e3 : A = some ⟨g, 0, none⟩ := by
      have := e.symm.trans e2
      injection this
    subst e3
    refine ⟨g, 0, rfl, (Array.getElem?_eq_some_iff.1 hg).1, fun k hk => ?_⟩
    have := h3.cells (g := g) (by rw [e]; rfl) k (.int .i64 (iAt l k)) (by simp [iAt_eq l k hk, hk])
    rwa [add_plain] at this

end Go.Proofs.Ytdjajpookmmafaa

namespace Go.Proofs.Ytdjajpookmmafaa
open Go.RowKit

set_option maxHeartbeats 2000000 in
theorem palike_any (A B : Option Addr) (l m : List Int) (c d : Nat) (w : World) (hl : l.length ≤ 9223372036854775807) (hm : m.length ≤ 9223372036854775807) (hp : IL w w.heap.size A l) (hq : IL w w.heap.size B m) :
    Calls Try.prog 43 #[.slice A l.length c, .slice B m.length d] w (Quiet (.int .i64 (alikeN l m)) w) := by
  have HP := hd hp
  have HQ := hd hq
  clear hp hq
  by_cases hml : m.length < l.length
  all_goals
    go_enter Try.func43, Try.ntmps43
    go_wp2
    go_loopw [13] (fun i wr => ∃ n : Nat, n ≤ l.length ∧ n ≤ m.length ∧ i = .int .i64 n ∧ (∃ k, wr = w.drewN k) ∧ Hid (∀ j, j < n → iAt l j = iAt m j)) (fun i _ => l.length - (intOf i).toNat)
    case atStart => exact ⟨0, Nat.zero_le _, Nat.zero_le _, rfl, ⟨0, rfl⟩, fun j hj => absurd hj (Nat.not_lt_zero _)⟩
    case round =>
      obtain ⟨n, hn1, hn2, rfl, ⟨kd, rfl⟩, HA⟩ := hrel
      by_cases hlt : n < l.length ∧ n < m.length
      · obtain ⟨h1, h2⟩ := hlt
        obtain ⟨b1, o1, rfl, hl1, c1⟩ := HP.out.at_ h1
        obtain ⟨b2, o2, rfl, hl2, c2⟩ := HQ.out.at_ h2
        by_cases hs : iAt l n = iAt m n
        · have HB := one_more (p := fun j => iAt l j = iAt m j) HA hs
          have hx : (iAt l n != iAt m n) = false := by simp [hs]
          clear HA hs
          go_wp2_with fail
          go_quiet (fail)
          go_wp2
          go_roundw
          case rel => exact ⟨n + 1, by omega, by omega, by go_num, (by first | exact ⟨_, rfl⟩ | exact ⟨_, World.drewN_drewN _ _ _⟩ | exact ⟨_, (World.drewN_drewN _ _ _).trans (World.drewN_drewN _ _ _)⟩), HB⟩
          case measure => simp [intOf]; omega
        · have HF := hd (alikeN_of l m n (by omega) (by omega) HA.out (fun _ _ => hs))
          have hx : (iAt l n != iAt m n) = true := by simp [hs]
          clear HA hs
          go_wp2_with fail
          go_quiet (fail)
          go_wp2
          go_ret
          exact ret_quiet (int_eq (by rw [HF.out])) (by first | exact ⟨_, rfl⟩ | exact ⟨_, World.drewN_drewN _ _ _⟩ | exact ⟨_, (World.drewN_drewN _ _ _).trans (World.drewN_drewN _ _ _)⟩)
      · have HF := hd (alikeN_of l m n (by omega) (by omega) HA.out (fun _ _ => by omega))
        first | (have hx : ¬ n < m.length := by omega) | skip
        first | (have hy : ¬ n < l.length := by omega) | skip
        clear HA
        go_wp2
        go_ret
        exact ret_quiet (int_eq (by rw [HF.out]; omega)) ⟨kd, rfl⟩

end Go.Proofs.Ytdjajpookmmafaa

namespace Go.Proofs.Ytdjajpookmmafaa
open Go.RowKit

theorem isame_yes (l m : List Int) (h : l.length = m.length) (h2 : alikeN l m = l.length) : samI l m = true := by
  unfold samI; exact decide_eq_true ((alikeN_eq l m h).1 h2)
set_option maxRecDepth 4000 in
theorem isame_no (l m : List Int) (h : l.length ≠ m.length ∨ alikeN l m ≠ l.length) : samI l m = false := by
  unfold samI
  refine decide_eq_false ?_
  rintro rfl
  rcases h with h | h
  · exact h rfl
  · exact h (alikeN_self l)
set_option maxRecDepth 4000 in
theorem above_yes (l m : List Int) (h : l.length < m.length) (h2 : alikeN l m = l.length) : aboveL l m = true := by
  unfold aboveL; simp [h, h2]
set_option maxRecDepth 4000 in
theorem above_no (l m : List Int) (h : ¬ l.length < m.length ∨ alikeN l m ≠ l.length) : aboveL l m = false := by
  unfold aboveL
  rcases h with h | h <;> simp [h]

set_option maxRecDepth 4000 in
set_option maxHeartbeats 2000000 in
theorem isame_any (A B : Option Addr) (l m : List Int) (c d : Nat) (w : World) (hl : l.length ≤ 9223372036854775807) (hm : m.length ≤ 9223372036854775807) (hp : IL w w.heap.size A l) (hq : IL w w.heap.size B m) :
    Calls Try.prog 22 #[.slice A l.length c, .slice B m.length d] w (Quiet (.bool (samI l m)) w) := by
  have HC := hd (palike_any A B l m c d w hl hm hp hq)
  clear hp hq
  by_cases h1 : l.length = m.length
  · have hx : ((l.length : Int) == (m.length : Int)) = true := by simp [h1]
    by_cases h2 : alikeN l m = l.length
    · have hy : ((alikeN l m : Int) == (l.length : Int)) = true := by simp [h2]
      have HF := hd (isame_yes l m h1 h2)
      clear h1 h2
      go_enter Try.func22, Try.ntmps22
      go_wp2_with (go_at_call 43; refine HC.out.mono ?_; rintro e w' ⟨rfl, kd, rfl⟩)
      go_ret
      exact ret_quiet (bool_eq (by rw [HF.out])) (by first | exact ⟨_, rfl⟩ | exact ⟨_, World.drewN_drewN _ _ _⟩ | exact ⟨_, (World.drewN_drewN _ _ _).trans (World.drewN_drewN _ _ _)⟩)
    · have hy : ((alikeN l m : Int) == (l.length : Int)) = false := by simp; omega
      have HF := hd (isame_no l m (.inr h2))
      clear h1 h2
      go_enter Try.func22, Try.ntmps22
      go_wp2_with (go_at_call 43; refine HC.out.mono ?_; rintro e w' ⟨rfl, kd, rfl⟩)
      go_ret
      exact ret_quiet (bool_eq (by rw [HF.out])) (by first | exact ⟨_, rfl⟩ | exact ⟨_, World.drewN_drewN _ _ _⟩ | exact ⟨_, (World.drewN_drewN _ _ _).trans (World.drewN_drewN _ _ _)⟩)
  · have hx : ((l.length : Int) == (m.length : Int)) = false := by simp; omega
    have HF := hd (isame_no l m (.inl h1))
    clear h1
    go_enter Try.func22, Try.ntmps22
    go_wp2
    go_ret
    exact ret_quiet (bool_eq (by rw [HF.out])) ⟨0, rfl⟩

set_option maxRecDepth 4000 in
set_option maxHeartbeats 2000000 in
theorem above_any (A B : Option Addr) (l m : List Int) (c d : Nat) (w : World) (hl : l.length ≤ 9223372036854775807) (hm : m.length ≤ 9223372036854775807) (hp : IL w w.heap.size A l) (hq : IL w w.heap.size B m) :
    Calls Try.prog 58 #[.slice A l.length c, .slice B m.length d] w (Quiet (.bool (aboveL l m)) w) := by
  have HC := hd (palike_any A B l m c d w hl hm hp hq)
  clear hp hq
  by_cases h1 : l.length < m.length
  · by_cases h2 : alikeN l m = l.length
    · have hy : ((alikeN l m : Int) == (l.length : Int)) = true := by simp [h2]
      have HF := hd (above_yes l m h1 h2)
      clear h2
      go_enter Try.func58, Try.ntmps58
      go_wp2_with (go_at_call 43; refine HC.out.mono ?_; rintro e w' ⟨rfl, kd, rfl⟩)
      go_ret
      exact ret_quiet (bool_eq (by rw [HF.out])) (by first | exact ⟨_, rfl⟩ | exact ⟨_, World.drewN_drewN _ _ _⟩ | exact ⟨_, (World.drewN_drewN _ _ _).trans (World.drewN_drewN _ _ _)⟩)
    · have hy : ((alikeN l m : Int) == (l.length : Int)) = false := by simp; omega
      have HF := hd (above_no l m (.inr h2))
      clear h2
      go_enter Try.func58, Try.ntmps58
      go_wp2_with (go_at_call 43; refine HC.out.mono ?_; rintro e w' ⟨rfl, kd, rfl⟩)
      go_ret
      exact ret_quiet (bool_eq (by rw [HF.out])) (by first | exact ⟨_, rfl⟩ | exact ⟨_, World.drewN_drewN _ _ _⟩ | exact ⟨_, (World.drewN_drewN _ _ _).trans (World.drewN_drewN _ _ _)⟩)
  · have hx : decide (l.length < m.length) = false := decide_eq_false h1
    have HF := hd (above_no l m (.inl h1))
    clear h1
    go_enter Try.func58, Try.ntmps58
    go_wp2
    go_ret
    exact ret_quiet (bool_eq (by rw [HF.out])) ⟨0, rfl⟩

set_option maxRecDepth 4000 in
set_option maxHeartbeats 2000000 in
theorem irsame_any (A B : Option Addr) (l m : List Int) (c d : Nat) (w : World) (hl : l.length ≤ 9223372036854775807) (_hm : m.length ≤ 9223372036854775807) (hp : IL w w.heap.size A l) (hq : IL w w.heap.size B m) :
    Calls Try.prog 31 #[.slice A l.length c, .slice B m.length d] w (Quiet (.bool (samI l m)) w) := by
  have HP := hd hp
  have HQ := hd hq
  clear hp hq
  by_cases hlm : l.length = m.length
  · have hx : ((l.length : Int) != (m.length : Int)) = false := by simp; omega
    have HL := hd hlm
    clear hlm
    go_enter Try.func31, Try.ntmps31
    go_wp2
    go_loopw [13] (fun i wr => ∃ n : Nat, n ≤ l.length ∧ i = .int .i64 n ∧ (∃ k, wr = w.drewN k) ∧ Hid (∀ j, j < n → iAt l j = iAt m j)) (fun i _ => l.length - (intOf i).toNat)
    case atStart => exact ⟨0, Nat.zero_le _, rfl, ⟨0, rfl⟩, fun j hj => absurd hj (Nat.not_lt_zero _)⟩
    case round =>
      obtain ⟨n, hn1, rfl, ⟨kd, rfl⟩, HA⟩ := hrel
      by_cases h1 : n < l.length
      · have h2 : n < m.length := by have := HL.out; omega
        obtain ⟨b1, o1, rfl, hl1, c1⟩ := HP.out.at_ h1
        obtain ⟨b2, o2, rfl, hl2, c2⟩ := HQ.out.at_ h2
        by_cases hs : iAt l n = iAt m n
        · have HB := one_more (p := fun j => iAt l j = iAt m j) HA hs
          have hy : (iAt l n != iAt m n) = false := by simp [hs]
          clear HA hs
          go_wp2_with fail
          go_quiet (fail)
          go_wp2
          go_roundw
          case rel => exact ⟨n + 1, by omega, by go_num, (by first | exact ⟨_, rfl⟩ | exact ⟨_, World.drewN_drewN _ _ _⟩ | exact ⟨_, (World.drewN_drewN _ _ _).trans (World.drewN_drewN _ _ _)⟩), HB⟩
          case measure => simp [intOf]; omega
        · have HF := hd (isame_no l m (.inr (by have := alikeN_of l m n (by omega) (by omega) HA.out (fun _ _ => hs); omega)))
          have hy : (iAt l n != iAt m n) = true := by simp [hs]
          clear HA hs
          go_wp2_with fail
          go_quiet (fail)
          go_wp2
          go_ret
          exact ret_quiet (bool_eq (by rw [HF.out])) (by first | exact ⟨_, rfl⟩ | exact ⟨_, World.drewN_drewN _ _ _⟩ | exact ⟨_, (World.drewN_drewN _ _ _).trans (World.drewN_drewN _ _ _)⟩)
      · have HF := hd (isame_yes l m HL.out (by have := alikeN_of l m n (by omega) (by have := HL.out; omega) HA.out (fun _ _ => by omega); omega))
        clear HA
        go_wp2
        go_ret
        exact ret_quiet (bool_eq (by rw [HF.out])) (by first | exact ⟨_, rfl⟩ | exact ⟨_, World.drewN_drewN _ _ _⟩ | exact ⟨_, (World.drewN_drewN _ _ _).trans (World.drewN_drewN _ _ _)⟩)
  · have hx : ((l.length : Int) != (m.length : Int)) = true := by simp; omega
    have HF := hd (isame_no l m (.inl hlm))
    clear hlm
    go_enter Try.func31, Try.ntmps31
    go_wp2
    go_ret
    exact ret_quiet (bool_eq (by rw [HF.out])) ⟨0, rfl⟩

end Go.Proofs.Ytdjajpookmmafaa

namespace Go.Proofs.Ytdjajpookmmafaa
open Go.RowKit

theorem nan_any (x : Int) (w : World) : Calls Try.prog 76 #[.int .i64 x] w fun e w' => e = .returned (.bool false) ∧ w = w' := by
  go_enter Try.func76, Try.ntmps76
  go_wp2
  go_ret
  exact ⟨ret_bool (by simp), rfl⟩

set_option maxRecDepth 4000 in
theorem cmp_any (x y : Int) (w : World) : Calls Try.prog 73 #[.int .i64 x, .int .i64 y] w fun e w' => e = .returned (.int .i64 (cmpI x y)) ∧ w = w' := by
  by_cases h1 : x < y
  · go_enter Try.func73, Try.ntmps73
    go_wp2_with (go_at_call 76; refine (nan_any _ _).mono ?_; rintro e w' ⟨rfl, rfl⟩)
    go_ret
    exact ⟨ret_int (by unfold cmpI; rw [if_pos h1]), rfl⟩
  · by_cases h2 : y < x
    · go_enter Try.func73, Try.ntmps73
      go_wp2_with (go_at_call 76; refine (nan_any _ _).mono ?_; rintro e w' ⟨rfl, rfl⟩)
      go_ret
      exact ⟨ret_int (by unfold cmpI; rw [if_neg (by omega), if_pos h2]), rfl⟩
    · go_enter Try.func73, Try.ntmps73
      go_wp2_with (go_at_call 76; refine (nan_any _ _).mono ?_; rintro e w' ⟨rfl, rfl⟩)
      go_ret
      exact ⟨ret_int (by unfold cmpI; rw [if_neg (by omega), if_neg (by omega)]), rfl⟩
set_option maxRecDepth 4000 in
theorem cmp_quiet (x y : Int) (w : World) (a n : Nat) : Calls Try.prog 73 #[.int .i64 x, .int .i64 y] (w.drewN (a + n)) fun e w' => e = .returned (.int .i64 (cmpI x y)) ∧ ∃ m, w' = w.drewN (a + m) :=
  (cmp_any x y _).mono fun _ _ ⟨he, hw⟩ => ⟨he, n, hw.symm⟩

set_option maxRecDepth 4000 in
set_option maxHeartbeats 2000000 in
theorem compare_any (A B : Option Addr) (l m : List Int) (c d : Nat) (w : World) (hl : l.length ≤ 9223372036854775807) (hm : m.length ≤ 9223372036854775807) (hp : IL w w.heap.size A l) (hq : IL w w.heap.size B m) :
    Calls Try.prog 72 #[.slice A l.length c, .slice B m.length d] w (Quiet (.int .i64 (cmpL l m)) w) := by
  have HC := hd (palike_any A B l m c d w hl hm hp hq)
  have hN := alikeN_le l m
  have HI := hd (cmpL_in l m)
  have HO := hd (cmpL_out l m)
  obtain ⟨K, hK⟩ : ∃ K, K = alikeN l m := ⟨_, rfl⟩
  rw [← hK] at HC hN HI HO
  clear hK
  by_cases h1 : K < l.length ∧ K < m.length
  · obtain ⟨h1, h2⟩ := h1
    obtain ⟨b1, o1, rfl, hl1, c1⟩ := hp.at_ h1
    obtain ⟨b2, o2, rfl, hl2, c2⟩ := hq.at_ h2
    have HF := hd (HI.out h1 h2)
    clear hp hq HI HO hN
    go_enter Try.func72, Try.ntmps72
    go_wp2_with (go_at_call 43; refine HC.out.mono ?_; rintro e w' ⟨rfl, kd, rfl⟩)
    go_quiet ((go_at_call 73; exact cmp_quiet _ _ _ _ _))
    go_wp2
    go_ret
    exact ret_quiet (int_eq (by rw [HF.out])) (by first | exact ⟨_, rfl⟩ | exact ⟨_, World.drewN_drewN _ _ _⟩ | exact ⟨_, (World.drewN_drewN _ _ _).trans (World.drewN_drewN _ _ _)⟩)
  · have HF := hd (HO.out (by omega))
    clear hp hq HI HO
    by_cases h3 : K < l.length
    · have h4 : decide (K < m.length) = false := decide_eq_false (by omega)
      clear hN h1
      go_enter Try.func72, Try.ntmps72
      go_wp2_with (first | (go_at_call 43; refine HC.out.mono ?_; rintro e w' ⟨rfl, kd, rfl⟩) | (go_at_call 73; refine (cmp_any _ _ _).mono ?_; rintro e w' ⟨rfl, rfl⟩))
      go_ret
      exact ret_quiet (int_eq (by rw [HF.out])) (by first | exact ⟨_, rfl⟩ | exact ⟨_, World.drewN_drewN _ _ _⟩ | exact ⟨_, (World.drewN_drewN _ _ _).trans (World.drewN_drewN _ _ _)⟩)
    · have h4 : decide (K < l.length) = false := decide_eq_false (by omega)
      clear hN h1 h3
      go_enter Try.func72, Try.ntmps72
      go_wp2_with (first | (go_at_call 43; refine HC.out.mono ?_; rintro e w' ⟨rfl, kd, rfl⟩) | (go_at_call 73; refine (cmp_any _ _ _).mono ?_; rintro e w' ⟨rfl, rfl⟩))
      go_ret
      exact ret_quiet (int_eq (by rw [HF.out])) (by first | exact ⟨_, rfl⟩ | exact ⟨_, World.drewN_drewN _ _ _⟩ | exact ⟨_, (World.drewN_drewN _ _ _).trans (World.drewN_drewN _ _ _)⟩)

end Go.Proofs.Ytdjajpookmmafaa

namespace Go.Proofs.Ytdjajpookmmafaa
open Go.RowKit
open Go.WideShapes (add_plain)

theorem intInfo : (Try.prog.info? 3).map (fun i => (i.zero, i.size, i.bytes)) = some (some (.int .i64 0), 1, 8) := by kernel_rfl

set_option maxRecDepth 4000 in
/-- A list's numbers appended to a row of the call's own_i. -/
theorem wpList_append_L (W : World) {ops : Array Oper} {rest : List Oper} {o : Oper} {a : Act} {Q : Exit → Act → World → Prop} (hgd : o.guard = none) (s x : Operand)
    (ho : o.op = .call { callee := .builtin .append, args := #[s, x], argTypes := #[22, 22] })
    (b : Nat) (v : Value) (k l : List Int) (hs : a.eval s = v) (hO : OwnI W b v k) (A : Option Addr) (n c B : Nat) (hx : a.eval x = .slice A n c) (hn : l.length = n) (hp : IL W B A l) (hlen : k.length + l.length ≤ 10000) (hb : b ≤ W.heap.size)
    (hK : ∀ v' w', OwnI w' b v' (k ++ l) → Grew b v W w' → wpList Try.prog ops Q rest (a.put o.dst v') w') :
    wpList Try.prog ops Q (o :: rest) a W := by
  subst hn
  obtain ⟨i0, hi, hz0, hz1, hz2⟩ := info_parts intInfo
  rcases A with _ | ad
  · have hl : l = [] := by
      rcases Classical.em (l = []) with h | h
      · exact h
      · obtain ⟨_, _, h, _⟩ := hp h; cases h
    subst hl
    refine wpList_append_none hgd s x 22 ho b 3 i0 1 Try.underlying22 hi v k.length (k.map (Value.int .i64)) hs hO.own c hx ?_
    exact hK v W (by rw [List.append_nil]; exact hO) (Grew.refl _ _ _)
  · have hc : ∀ j u, (l.map (Value.int .i64))[j]? = some u → W.cell? (ad.add j) = some u := by
      intro j u hj
      have hjl : j < l.length := by have := (List.getElem?_eq_some_iff.1 hj).1; simpa using this
      obtain ⟨b', o', e, _, h⟩ := hp (by rintro rfl; simp at hjl)
      injection e with e
      subst e
      rw [add_plain, h j hjl, ← hj]
      simp [iAt_eq l j hjl, hjl]
    refine wpList_append_own _ hgd s x 22 ho b 3 i0 _ 1 8 Try.underlying22 hi hz0 hz1 hz2 rfl (by decide) v k.length (k.map (Value.int .i64)) hs hO.own ad l.length c (l.map (Value.int .i64)) hx (by simp) hc (by simp [Value.oneCell'])
      (by unfold maxLen; omega) (by omega) hb (fun v' w' h1 h2 _ => hK v' w' (OwnI.of_own (n := k.length + l.length) (by rw [List.map_append]; exact h1) (by simp)) ?_)
    exact ⟨h2.size, fun B w0 hB hBW hb0 => hb0.grown h2 hBW (fun j hj => Nat.le_trans hB (hO.lt hj).1), fun p hp hne => World.cell?_of_block (h2.block p.block hp hne)⟩

def NewP (w : World) (l : List Int) (e : Ending) (w' : World) : Prop := ∃ v, e = .returned v ∧ OwnI w' w.heap.size v l ∧ Below w.heap.size w w'
def NewPE (w : World) (r : List Int × Int) (e : Ending) (w' : World) : Prop := ∃ v, e = .returned (.tuple #[v, .int .i64 r.2]) ∧ OwnI w' w.heap.size v r.1 ∧ Below w.heap.size w w'

set_option maxRecDepth 4000 in
theorem icopy_any (A : Option Addr) (l : List Int) (n c : Nat) (w : World) (hn : l.length = n) (hl : n ≤ 1000) (hp : IL w w.heap.size A l) :
    Calls Try.prog 52 #[.slice A n c] w (NewP w l) := by
  have HP := hd hp
  have HN := hd hn
  clear hp hn
  go_enter Try.func52, Try.ntmps52
  go_wp2_with (at_builtin; refine wpList_append_L w rfl _ _ rfl w.heap.size (.slice none 0 0) [] l rfl (OwnI.nil _ _) A n c w.heap.size rfl HN.out HP.out (by have := HN.out; simp; omega) (Nat.le_refl _) ?_; intro v' w1 ho1 hg1)
  go_ret
  exact ⟨v', rfl, by simpa using ho1, hg1.below _ _ (Nat.le_refl _) (Nat.le_refl _) (Below.refl _ _)⟩

set_option maxRecDepth 4000 in
theorem run_mk_int (n : Nat) (hn : n ≤ 10000) (w : World) : (Instr.makeSlice 22 (.int .i64 0) (.int .i64 (n : Int))).run Try.prog w = .ok (.slice (some ⟨w.heap.size, 0, none⟩) 0 n) (w.alloc (.cells (madeCells #[.int .i64 0] n) 3)) := by
  obtain ⟨i0, hi, hz0, hz1, hz2⟩ := info_parts intInfo
  have h := run_makeSlice (P := Try.prog) w 22 3 i0 _ Try.underlying22 hi hz0 .i64 .i64 0 (n : Int) (by omega) (by omega) (by rw [hz1]; simp; omega) (by rw [hz2]; omega) (by omega)
  rw [h, hz1]
  simp [Value.cells]
set_option maxRecDepth 4000 in
theorem OwnI.made (w : World) (b n : Nat) (hn : n ≤ 10000) (hb : b ≤ w.heap.size) : OwnI (w.alloc (.cells (madeCells #[.int .i64 0] n) 3)) b (.slice (some ⟨w.heap.size, 0, none⟩) 0 n) [] :=
  OwnI.of_own (World.ownsRow_made w _ n hb (by unfold maxLen; omega) (by rw [size_madeCells]; omega)) rfl

set_option maxRecDepth 4000 in
theorem ifresh_any (A : Option Addr) (l : List Int) (n c : Nat) (w : World) (hn : l.length = n) (hl : n ≤ 1000) (hp : IL w w.heap.size A l) :
    Calls Try.prog 67 #[.slice A n c] w (NewP w l) := by
  have HP := hd hp
  have HN := hd hn
  have hmk := fun W => run_mk_int n (by omega) W
  clear hp hn
  go_enter Try.func67, Try.ntmps67
  go_wp2_with (at_builtin; refine wpList_append_L _ rfl (.tmp 5) (.tmp 6) rfl w.heap.size (.slice (some ⟨w.heap.size, 0, none⟩) 0 n) [] l rfl (OwnI.made _ _ _ (by omega) (Nat.le_refl _)) A n c w.heap.size rfl HN.out (HP.out.below ((Below.refl _ _).alloc (Nat.le_refl _) _)) (by have := HN.out; simp; omega) (by simp) ?_; intro v' w1 ho1 hg1)
  go_ret
  exact ⟨v', rfl, by simpa using ho1, hg1.below _ _ (Nat.le_refl _) (by simp) ((Below.refl _ _).alloc (Nat.le_refl _) _)⟩

end Go.Proofs.Ytdjajpookmmafaa

namespace Go.Proofs.Ytdjajpookmmafaa
open Go.RowKit
open Go.WideShapes (add_plain)

theorem OwnI.form {w : World} {b : Nat} {v : Value} {l : List Int} (h : OwnI w b v l) (hl : 0 < l.length) : ∃ g c, v = .slice (some ⟨g, 0, none⟩) l.length c ∧ l.length ≤ c ∧ c ≤ maxLen ∧ b ≤ g ∧ g < w.heap.size ∧
    (∀ k, k < l.length → w.cell? ⟨g, k, none⟩ = some (.int .i64 (iAt l k))) ∧ (∀ k, w.frozen? ⟨g, k, none⟩ = false) ∧ ∀ k u, OwnI (w.setCell ⟨g, k, none⟩ (.int .i64 u)) b v (l.set k u) := by
  obtain ⟨A, c, rfl, h1, h2, h3⟩ := h
  obtain ⟨g, cap, hv, hbg, hlt⟩ := h3.form hl
  injection hv with hA _ hcap
  subst hA hcap
  refine ⟨g, c, rfl, h1, h2, hbg, hlt, fun k hk => ?_, fun k => h3.frozenAt k, fun k u => ?_⟩
  · rw [h3.cellAt k (by omega)]
    simp [iAt_eq l k hk, hk]
  · refine OwnI.of_own (n := l.length) ?_ (by simp)
    have := (h3.stored k (.int .i64 u)).1
    rwa [← List.map_set] at this

set_option maxRecDepth 4000 in
theorem newPE_ret {w w' : World} {r : List Int × Int} {l : List Int} {e : Int} {v : Value} (h : r = (l, e)) (ho : OwnI w' w.heap.size v l) (hb : Below w.heap.size w w') : NewPE w r (.returned (.tuple #[v, .int .i64 e])) w' := by
  subst h; exact ⟨v, rfl, ho, hb⟩
set_option maxRecDepth 4000 in
/-- The last number of a path that is not empty, and what is beside it. -/
theorem sib_eq (l : List Int) (k : Nat) (h : l.length = k + 1) (v : Int) : sib l v = l.set k v := by unfold sib; rw [h]; rfl
set_option maxRecDepth 4000 in
theorem last_eq (l : List Int) (k : Nat) (h : l.length = k + 1) : lastL l = iAt l k := by unfold lastL; rw [h]; rfl

set_option maxRecDepth 4000 in
set_option maxHeartbeats 1000000 in
theorem beside_any (A : Option Addr) (l : List Int) (k c : Nat) (v : Int) (w : World) (hn : l.length = k + 1) (hl : k < 1000) (hp : IL w w.heap.size A l) :
    Calls Try.prog 63 #[.slice A (k + 1) c, .int .i64 v] w (NewP w (sib l v)) := by
  have HC := hd (ifresh_any A l (k + 1) c w hn (by omega) hp)
  have HN := hd hn
  clear hn hp
  go_enter Try.func63, Try.ntmps63
  go_wp2_with fail
  refine HC.out.mono ?_
  rintro e w1 ⟨v1, rfl, ho, hb⟩
  obtain ⟨g, c1, rfl, h1, h2, h3, h4, h5, h6, h7⟩ := ho.form (by have := HN.out; omega)
  have hc := h5 k (by have := HN.out; omega)
  have hf := h6 k
  have H7 := hd (h7 k v)
  rw [HN.out] at h1 H7
  rw [HN.out]
  clear ho h5 h6 h7
  go_wp2
  go_ret
  exact ⟨_, rfl, by rw [sib_eq l k HN.out]; exact H7.out, hb.setCell h3 _⟩

set_option maxRecDepth 4000 in
set_option maxHeartbeats 1000000 in
theorem next_any (A : Option Addr) (l : List Int) (n c : Nat) (w : World) (hn : l.length = n) (hl : n ≤ 1000) (hW : ∀ k, k < l.length → iAt l k ≤ 9223372036854775807 ∧ -9223372036854775808 ≤ iAt l k) (hp : IL w w.heap.size A l) :
    Calls Try.prog 51 #[.slice A n c] w (NewPE w (nextL l)) := by
  rcases n with _ | k
  · have HF := hd (show nextL l = ([], 6) by unfold nextL; rw [if_pos hn])
    clear hn hp hW
    go_enter Try.func51, Try.ntmps51
    go_wp2
    go_ret2
    exact newPE_ret HF.out (OwnI.nil _ _) (Below.refl _ _)
  · have hL := last_eq l k hn
    have hw := hW k (by omega)
    obtain ⟨b, o, rfl, hb0, hc⟩ := hp.at_ (show k < l.length by omega)
    have HC := hd (fun v => beside_any (some ⟨b, o, none⟩) l k c v w hn (by omega) hp)
    by_cases hm : iAt l k = 9223372036854775807
    · have HF := hd (show nextL l = ([], 8) by unfold nextL; rw [if_neg (by omega), if_pos (by omega)])
      have h1 : (iAt l k == 9223372036854775807) = true := by simp [hm]
      clear hn hp hW hL hm
      go_enter Try.func51, Try.ntmps51
      go_wp2
      go_ret2
      exact newPE_ret HF.out (OwnI.nil _ _) (Below.refl _ _)
    · have HF := hd (show nextL l = (sib l (iAt l k + 1), 0) by unfold nextL; rw [if_neg (by omega), hL, if_neg hm])
      have h1 : (iAt l k == 9223372036854775807) = false := by simp [hm]
      have h2 : iAt l k + 1 ≤ 9223372036854775807 := by omega
      clear hn hp hW hL hm
      go_enter Try.func51, Try.ntmps51
      go_wp2_with fail
      refine (HC.out _).mono ?_
      rintro e w1 ⟨v1, rfl, ho, hb⟩
      go_wp2
      go_ret2
      exact newPE_ret HF.out ho hb

set_option maxRecDepth 4000 in
set_option maxHeartbeats 1000000 in
theorem back_any (A : Option Addr) (l : List Int) (n c : Nat) (w : World) (hn : l.length = n) (hl : n ≤ 1000) (hW : ∀ k, k < l.length → iAt l k ≤ 9223372036854775807 ∧ -9223372036854775808 ≤ iAt l k) (hp : IL w w.heap.size A l) :
    Calls Try.prog 50 #[.slice A n c] w (NewPE w (backL l)) := by
  rcases n with _ | k
  · have HF := hd (show backL l = ([], 6) by unfold backL; rw [if_pos hn])
    clear hn hp hW
    go_enter Try.func50, Try.ntmps50
    go_wp2
    go_ret2
    exact newPE_ret HF.out (OwnI.nil _ _) (Below.refl _ _)
  · have hL := last_eq l k hn
    have hw := hW k (by omega)
    obtain ⟨b, o, rfl, hb0, hc⟩ := hp.at_ (show k < l.length by omega)
    have HC := hd (fun v => beside_any (some ⟨b, o, none⟩) l k c v w hn (by omega) hp)
    by_cases hm : iAt l k ≤ 0
    · have HF := hd (show backL l = ([], 8) by unfold backL; rw [if_neg (by omega), if_pos (by omega)])
      clear hn hp hW hL
      go_enter Try.func50, Try.ntmps50
      go_wp2
      go_ret2
      exact newPE_ret HF.out (OwnI.nil _ _) (Below.refl _ _)
    · have HF := hd (show backL l = (sib l (iAt l k - 1), 0) by unfold backL; rw [if_neg (by omega), hL, if_neg hm])
      clear hn hp hW hL
      go_enter Try.func50, Try.ntmps50
      go_wp2_with fail
      refine (HC.out _).mono ?_
      rintro e w1 ⟨v1, rfl, ho, hb⟩
      go_wp2
      go_ret2
      exact newPE_ret HF.out ho hb

end Go.Proofs.Ytdjajpookmmafaa

namespace Go.Proofs.Ytdjajpookmmafaa
open Go.RowKit

theorem left_no (l m : List Int) (K : Nat) (hK : K = alikeN l m) (h : K + 1 ≠ l.length ∨ ¬ K < m.length ∨ ¬ iAt l K < iAt m K) : leftL l m = false := by
  subst hK
  cases h2 : leftL l m
  · rfl
  · rw [leftL_iff] at h2
    omega

set_option maxRecDepth 4000 in
set_option maxHeartbeats 2000000 in
theorem ileft_any (A B : Option Addr) (l m : List Int) (c d : Nat) (w : World) (hl : l.length ≤ 9223372036854775807) (hm : m.length ≤ 9223372036854775807) (hp : IL w w.heap.size A l) (hq : IL w w.heap.size B m) :
    Calls Try.prog 57 #[.slice A l.length c, .slice B m.length d] w (Quiet (.bool (leftL l m)) w) := by
  have HC := hd (palike_any A B l m c d w hl hm hp hq)
  have hN := alikeN_le l m
  obtain ⟨K, hK⟩ : ∃ K, K = alikeN l m := ⟨_, rfl⟩
  rw [← hK] at HC hN
  have HK := hd hK
  clear hK
  have ws : IntKind.i64.wrap ((l.length : Int) - 1) = (l.length : Int) - 1 := IntWalk.i64_in _ (by omega)
  by_cases h1 : K + 1 = l.length
  · have hx : ((K : Int) == (l.length : Int) - 1) = true := by simp; omega
    by_cases h2 : K < m.length
    · obtain ⟨b1, o1, rfl, hl1, c1⟩ := hp.at_ (show K < l.length by omega)
      obtain ⟨b2, o2, rfl, hl2, c2⟩ := hq.at_ h2
      have h0 : K < l.length := by omega
      by_cases h3 : iAt l K < iAt m K
      · have HF := hd ((leftL_iff l m).2 (by rw [← HK.out]; exact ⟨h1, h2, h3⟩))
        clear hp hq hN h1
        go_enter Try.func57, Try.ntmps57
        go_wp2_with (go_at_call 43; refine HC.out.mono ?_; rintro e w' ⟨rfl, kd, rfl⟩)
        go_quiet (fail)
        go_wp2
        go_ret
        exact ret_quiet (bool_eq (by rw [HF.out])) (by first | exact ⟨_, rfl⟩ | exact ⟨_, World.drewN_drewN _ _ _⟩ | exact ⟨_, (World.drewN_drewN _ _ _).trans (World.drewN_drewN _ _ _)⟩)
      · have HF := hd (left_no l m K HK.out (.inr (.inr h3)))
        have h3' : decide (iAt l K < iAt m K) = false := decide_eq_false h3
        clear hp hq hN h1 h3
        go_enter Try.func57, Try.ntmps57
        go_wp2_with (go_at_call 43; refine HC.out.mono ?_; rintro e w' ⟨rfl, kd, rfl⟩)
        go_quiet (fail)
        go_wp2
        go_ret
        exact ret_quiet (bool_eq (by rw [HF.out])) (by first | exact ⟨_, rfl⟩ | exact ⟨_, World.drewN_drewN _ _ _⟩ | exact ⟨_, (World.drewN_drewN _ _ _).trans (World.drewN_drewN _ _ _)⟩)
    · have HF := hd (left_no l m K HK.out (.inr (.inl h2)))
      have h2' : decide (K < m.length) = false := decide_eq_false h2
      clear hp hq hN h1 h2
      go_enter Try.func57, Try.ntmps57
      go_wp2_with (go_at_call 43; refine HC.out.mono ?_; rintro e w' ⟨rfl, kd, rfl⟩)
      go_quiet (fail)
      go_wp2
      go_ret
      exact ret_quiet (bool_eq (by rw [HF.out])) (by first | exact ⟨_, rfl⟩ | exact ⟨_, World.drewN_drewN _ _ _⟩ | exact ⟨_, (World.drewN_drewN _ _ _).trans (World.drewN_drewN _ _ _)⟩)
  · have HF := hd (left_no l m K HK.out (.inl h1))
    have hx : ((K : Int) == (l.length : Int) - 1) = false := by simp; omega
    clear hp hq hN h1
    go_enter Try.func57, Try.ntmps57
    go_wp2_with (go_at_call 43; refine HC.out.mono ?_; rintro e w' ⟨rfl, kd, rfl⟩)
    go_quiet (fail)
    go_wp2
    go_ret
    exact ret_quiet (bool_eq (by rw [HF.out])) (by first | exact ⟨_, rfl⟩ | exact ⟨_, World.drewN_drewN _ _ _⟩ | exact ⟨_, (World.drewN_drewN _ _ _).trans (World.drewN_drewN _ _ _)⟩)

set_option maxRecDepth 4000 in
theorem irsame_is (A B : Option Addr) (l m : List Int) (a b c d : Nat) (r : Bool) (hr : samI l m = r) (w : World) (ha : l.length = a) (hb : m.length = b) (hl : l.length ≤ 9223372036854775807) (hm : m.length ≤ 9223372036854775807) (hp : IL w w.heap.size A l) (hq : IL w w.heap.size B m) :
    Calls Try.prog 31 #[.slice A a c, .slice B b d] w (Quiet (.bool r) w) := by
  subst ha hb hr
  exact irsame_any A B l m c d w hl hm hp hq

set_option maxRecDepth 4000 in
theorem itake_same (l m : List Int) (k : Nat) (h1 : k ≤ l.length) (h2 : k ≤ m.length) : samI (l.take k) (m.take k) = decide (k ≤ alikeN l m) := by
  have h := level_is l (m.take k) k h1
  have h3 : aboveL (l.take k) (m.take k) = false := above_no _ _ (.inl (by simp; omega))
  rw [h3, Bool.or_false] at h
  rw [h, Bool.eq_iff_iff, decide_eq_true_iff, decide_eq_true_iff]
  constructor
  · intro h4
    rcases Nat.lt_or_ge (alikeN l m) k with hlt | hge
    · exfalso
      have := alikeN_same l (m.take k) (alikeN l m) (by omega)
      refine alikeN_ne l m (by omega) (by omega) ?_
      rw [this, iAt_eq (m.take k) (alikeN l m) (by simp; omega), iAt_eq m (alikeN l m) (by omega)]
      simp
    · exact hge
  · intro h4
    have : alikeN l (m.take k) = k := alikeN_of _ _ _ h1 (by simp; omega) (fun j hj => by
      rw [alikeN_same l m j (by omega), iAt_eq (m.take k) j (by simp; omega), iAt_eq m j (by omega)]
      simp) (fun _ h => absurd h (by simp; omega))
    omega
set_option maxRecDepth 4000 in
theorem take_len (l : List Int) (k : Nat) (h : k ≤ l.length) : (l.take k).length = k := by simp; omega
set_option maxRecDepth 4000 in
theorem take_at (l : List Int) (k j : Nat) (h : k ≤ l.length) (hj : j < k) : iAt (l.take k) j = iAt l j := by
  rw [iAt_eq _ j (by simp; omega), iAt_eq l j (by omega)]; simp

end Go.Proofs.Ytdjajpookmmafaa

namespace Go.Proofs.Ytdjajpookmmafaa
open Go.RowKit
open Go.WideShapes (add_plain)

theorem rowInfo : (Try.prog.info? 22).map (fun i => (i.zero, i.size, i.bytes)) = some (some (.slice none 0 0), 1, 24) := by kernel_rfl

def lAt (L : List (List Int)) (k : Nat) : List Int := L.getD k []
set_option maxRecDepth 4000 in
theorem lAt_eq (L : List (List Int)) (k : Nat) (hk : k < L.length) : lAt L k = L[k] := by
  unfold lAt; rw [List.getD_eq_getElem?_getD, List.getElem?_eq_getElem hk]; rfl

/-- The slice at A holds the paths L, all below block B. -/
def RL (w : World) (B : Nat) (A : Option Addr) (L : List (List Int)) : Prop :=
  L ≠ [] → ∃ b o, A = some ⟨b, o, none⟩ ∧ b < B ∧ ∀ k, k < L.length → ∃ (Ak : Option Addr) (ck : Nat), w.cell? ⟨b, o + k, none⟩ = some (.slice Ak (lAt L k).length ck) ∧ (lAt L k).length ≤ ck ∧ IL w B Ak (lAt L k)
set_option maxRecDepth 4000 in
theorem RL.keep {w w' : World} {B : Nat} {A : Option Addr} {L : List (List Int)} (h : RL w B A L) (hk : ∀ p : Addr, p.block < B → w'.cell? p = w.cell? p) : RL w' B A L := fun hn => by
  obtain ⟨b, o, e, hb, hc⟩ := h hn
  refine ⟨b, o, e, hb, fun k hkl => ?_⟩
  obtain ⟨Ak, ck, h1, h2, h3⟩ := hc k hkl
  exact ⟨Ak, ck, (hk _ hb).trans h1, h2, h3.keep hk⟩
set_option maxRecDepth 4000 in
theorem RL.below {w w' : World} {B : Nat} {A : Option Addr} {L : List (List Int)} (h : RL w B A L) (hb : Below B w w') : RL w' B A L := h.keep fun _ hp => hb.cell hp
set_option maxRecDepth 4000 in
theorem RL.more {w : World} {B B' : Nat} {A : Option Addr} {L : List (List Int)} (h : RL w B A L) (hB : B ≤ B') : RL w B' A L := fun hn => by
  obtain ⟨b, o, e, hb, hc⟩ := h hn
  refine ⟨b, o, e, by omega, fun k hkl => ?_⟩
  obtain ⟨Ak, ck, h1, h2, h3⟩ := hc k hkl
  exact ⟨Ak, ck, h1, h2, h3.more hB⟩
set_option maxRecDepth 4000 in
theorem RL.later {w w' : World} {A : Option Addr} {L : List (List Int)} (h : RL w w.heap.size A L) (hb : Below w.heap.size w w') : RL w' w'.heap.size A L := (h.below hb).more hb.size
set_option maxRecDepth 4000 in
theorem RL.at_ {w : World} {B : Nat} {A : Option Addr} {L : List (List Int)} (h : RL w B A L) {k : Nat} (hk : k < L.length) :
    ∃ b o Ak ck, A = some ⟨b, o, none⟩ ∧ b < B ∧ w.cell? ⟨b, o + k, none⟩ = some (.slice Ak (lAt L k).length ck) ∧ (lAt L k).length ≤ ck ∧ IL w B Ak (lAt L k) := by
  obtain ⟨b, o, e, hb, hc⟩ := h (by intro e; subst e; simp at hk)
  obtain ⟨Ak, ck, h1, h2, h3⟩ := hc k hk
  exact ⟨b, o, Ak, ck, e, hb, h1, h2, h3⟩

/-- The value v is a row of the call's own_i of the paths L, each of them a row of the call's own_i. -/
def OwnR (w : World) (b : Nat) (v : Value) (L : List (List Int)) : Prop :=
  ∃ (vs : List Value), vs.length = L.length ∧ w.ownsRow b 22 1 v L.length vs ∧ ∀ k u, vs[k]? = some u → OwnI w b u (lAt L k)

set_option maxRecDepth 4000 in
theorem own_apart {w : World} {b b' e e' s s' n n' : Nat} {v u : Value} {xs ys : List Value} (h : w.ownsRow b e s v n xs) (h' : w.ownsRow b' e' s' u n' ys) (hne : e ≠ e') : u.ownBlock = none ∨ u.ownBlock ≠ v.ownBlock := by
  rcases h'.2 with ⟨rfl, _⟩ | ⟨g', cap', cur', rfl, _, hg', _⟩
  · exact .inl rfl
  · rcases h.2 with ⟨rfl, _⟩ | ⟨g, cap, cur, rfl, _, hg, _⟩
    · exact .inr (by simp [Value.ownBlock])
    · refine .inr fun hh => ?_
      simp only [Value.ownBlock, Option.some.injEq] at hh
      rw [hh, hg] at hg'
      injection hg' with hg'
      injection hg' with _ h2
      exact hne h2
set_option maxRecDepth 4000 in
theorem OwnI.grown {w w' : World} {b b' n : Nat} {u v : Value} {l : List Int} {xs : List Value} (h : OwnI w b u l) (hr : w.ownsRow b' 22 1 v n xs) (hg : w.grownBy w' v.ownBlock) : OwnI w' b u l :=
  OwnI.of_own (h.own.kept hg (own_apart hr h.own (by decide))) rfl
set_option maxRecDepth 4000 in
theorem OwnI.open_at {w : World} {b : Nat} {v : Value} {l : List Int} (h : OwnI w b v l) (n : Nat) (hn : l.length = n) : ∃ (A : Option Addr) (c : Nat), v = .slice A n c ∧ n ≤ c ∧ IL w w.heap.size A l := by
  subst hn
  obtain ⟨A, c, h1, h2, _, h3⟩ := h.open_
  exact ⟨A, c, h1, h2, h3⟩
set_option maxRecDepth 4000 in
theorem OwnR.nil (w : World) (b : Nat) : OwnR w b (.slice none 0 0) [] := ⟨[], rfl, World.ownsRow_nil w b 22 1, by simp⟩
set_option maxRecDepth 4000 in
theorem OwnR.below {w w' : World} {b : Nat} {v : Value} {L : List (List Int)} (h : OwnR w b v L) (hb : Below w.heap.size w w') : OwnR w' b v L := by
  obtain ⟨vs, h1, h2, h3⟩ := h
  refine ⟨vs, h1, ⟨h2.1, ?_⟩, fun k u hu => (h3 k u hu).below hb⟩
  rcases h2.2 with h4 | ⟨g, cap, cur, e2, hbg, hg, rest⟩
  · exact .inl h4
  · refine .inr ⟨g, cap, cur, e2, hbg, ?_, rest⟩
    rw [hb.block g (Array.getElem?_eq_some_iff.1 hg).1]
    exact hg
set_option maxRecDepth 4000 in
theorem OwnR.lt {w : World} {b : Nat} {v : Value} {L : List (List Int)} (h : OwnR w b v L) {j : Nat} (hj : v.ownBlock = some j) : b ≤ j ∧ j < w.heap.size := by
  obtain ⟨vs, _, h2, _⟩ := h
  exact h2.lt j hj
set_option maxRecDepth 4000 in
theorem OwnR.open_ {w : World} {b : Nat} {v : Value} {L : List (List Int)} (h : OwnR w b v L) : ∃ (A : Option Addr) (c : Nat), v = .slice A L.length c ∧ L.length ≤ c ∧ RL w w.heap.size A L := by
  obtain ⟨vs, h1, h2, h3⟩ := h
  rcases h2.2 with ⟨e, h0⟩ | ⟨g, cap, cur, e, hbg, hg, hnc, _⟩
  · exact ⟨none, 0, by rw [e, h0], by omega, fun hn => absurd (List.eq_nil_of_length_eq_zero h0) hn⟩
  · refine ⟨some ⟨g, 0, none⟩, cap, e, hnc, fun _ => ⟨g, 0, rfl, (Array.getElem?_eq_some_iff.1 hg).1, fun k hk => ?_⟩⟩
    have hv : vs[k]? = some vs[k] := List.getElem?_eq_getElem (by omega)
    have hc := h2.cells (g := g) (by rw [e]; rfl) k _ hv
    rw [add_plain] at hc
    obtain ⟨Ak, ck, e2, h5, h6, h7⟩ := (h3 k _ hv).open_
    rw [e2] at hc
    exact ⟨Ak, ck, hc, h5, h7⟩

set_option maxRecDepth 4000 in
/-- One path appended to a row of the call's own_i. -/
theorem wpList_append_R (W : World) {ops : Array Oper} {rest : List Oper} {o : Oper} {a : Act} {Q : Exit → Act → World → Prop} (hgd : o.guard = none) (s x : Operand)
    (ho : o.op = .call { callee := .builtin .append, args := #[s, x], argTypes := #[86, 86] })
    (b : Nat) (v y : Value) (L : List (List Int)) (l : List Int) (hs : a.eval s = v) (hO : OwnR W b v L) (hy : OwnI W b y l) (g : Nat) (hg : g = W.heap.size) (hx : a.eval x = .slice (some ⟨g, 0, none⟩) 1 1) (hlen : L.length ≤ 5000) (hb : b ≤ W.heap.size)
    (hK : ∀ v' w', OwnR w' b v' (L ++ [l]) → Grew b v W w' → wpList Try.prog ops Q rest (a.put o.dst v') w') :
    wpList Try.prog ops Q (o :: rest) a (W.alloc (.cells #[y] 22)) := by
  subst hg
  obtain ⟨i0, hi, hz0, hz1, hz2⟩ := info_parts rowInfo
  have hA : Below W.heap.size W (W.alloc (.cells #[y] 22)) := (Below.refl _ _).alloc (Nat.le_refl _) _
  obtain ⟨vs, h1, h2, h3⟩ := hO.below hA
  have hyy := hy.below hA
  have hone : y.oneCell' = true := by
    obtain ⟨Ay, cy, rfl, _⟩ := hy
    rfl
  refine wpList_append_own _ hgd s x 86 ho b 22 i0 _ 1 24 Try.underlying86 hi hz0 hz1 hz2 rfl (by decide) v L.length vs hs h2 ⟨W.heap.size, 0, none⟩ 1 1 [y] hx rfl (cell_one_new _ _ _) (by simpa using hone)
    (by unfold maxLen; omega) (by omega) (by simp; omega) (fun v' w' h4 h5 _ => hK v' w' ⟨vs ++ [y], by simp [h1], by simpa using h4, fun k u hu => ?_⟩ ?_)
  · rw [List.getElem?_append] at hu
    split at hu
    · rename_i hk
      have : lAt (L ++ [l]) k = lAt L k := by rw [lAt_eq _ k (by simp; omega), lAt_eq L k (by omega), List.getElem_append_left (by omega)]
      rw [this]
      exact (h3 k u hu).grown h2 h5
    · rename_i hk
      have hk0 : k - vs.length = 0 := by
        have := (List.getElem?_eq_some_iff.1 hu).1
        simp at this; omega
      rw [hk0] at hu
      have hu : y = u := by simpa using hu
      subst hu
      have : lAt (L ++ [l]) k = l := by
        have : k = L.length := by omega
        subst this
        simp [lAt]
      rw [this]
      exact hyy.grown h2 h5
  · have hsz : (W.alloc (.cells #[y] 22)).heap.size = W.heap.size + 1 := by simp
    refine ⟨by have := h5.size; omega, fun B w0 hB hBW hb0 => (hb0.alloc hBW _).grown h5 (by omega) (fun j hj => Nat.le_trans hB (hO.lt hj).1), fun p hp hne => ?_⟩
    exact (World.cell?_of_block (h5.block p.block (by omega) hne)).trans (World.cell?_alloc_lt _ _ p hp)

def NewR (w : World) (L : List (List Int)) (e : Ending) (w' : World) : Prop := ∃ v, e = .returned v ∧ OwnR w' w.heap.size v L ∧ Below w.heap.size w w'
def levTo (l : List Int) (n : Nat) : List (List Int) := (List.range n).map fun j => l.take j
set_option maxRecDepth 4000 in
theorem levTo_more (l : List Int) (n : Nat) : levTo l n ++ [l.take n] = levTo l (n + 1) := by unfold levTo; rw [List.range_succ]; simp
set_option maxRecDepth 4000 in
theorem levTo_length (l : List Int) (n : Nat) : (levTo l n).length = n := by simp [levTo]
set_option maxRecDepth 4000 in
theorem levTo_all (l : List Int) : levelsL l = levTo l (l.length + 1) := rfl
set_option maxRecDepth 4000 in
theorem run_mkR (n : Nat) (hn : n ≤ 10000) (w : World) : (Instr.makeSlice 86 (.int .i64 0) (.int .i64 (n : Int))).run Try.prog w = .ok (.slice (some ⟨w.heap.size, 0, none⟩) 0 n) (w.alloc (.cells (madeCells #[.slice none 0 0] n) 22)) := by
  obtain ⟨i0, hi, hz0, hz1, hz2⟩ := info_parts rowInfo
  have h := run_makeSlice (P := Try.prog) w 86 22 i0 _ Try.underlying86 hi hz0 .i64 .i64 0 (n : Int) (by omega) (by omega) (by rw [hz1]; simp; omega) (by rw [hz2]; omega) (by omega)
  rw [h, hz1]
  simp [Value.cells]
set_option maxRecDepth 4000 in
theorem OwnR.made (w : World) (b n : Nat) (hn : n ≤ 10000) (hb : b ≤ w.heap.size) : OwnR (w.alloc (.cells (madeCells #[.slice none 0 0] n) 22)) b (.slice (some ⟨w.heap.size, 0, none⟩) 0 n) [] :=
  ⟨[], rfl, World.ownsRow_made w _ n hb (by unfold maxLen; omega) (by rw [size_madeCells]; omega), by simp⟩

set_option maxRecDepth 4000 in
theorem all_same (L M : List (List Int)) (h : L.length = M.length) (h0 : ∀ j, j < L.length → lAt L j = lAt M j) : decide (L = M) = true := by
  rw [decide_eq_true_iff]
  apply List.ext_getElem h
  intro i h1 h2
  have := h0 i h1
  rwa [lAt_eq L i h1, lAt_eq M i h2] at this

end Go.Proofs.Ytdjajpookmmafaa
