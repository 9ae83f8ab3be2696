/- A point's own copy; a range's points in order, the program's and the document's. Points of a tree: plain functions and facts; the last leaf that stands ahead of a path, the first one that does not; no program is named here. A Kid's point, told by the node above it (under); a list turned round (slices.Reverse); what is told of it (told). A list turned round in place (slices.Reverse); what is told of a point whose path was told the other way round (told). The last leaf of a node, and the last one ahead of a path (lastIn, lastAhead). The last leaf of a node (lastIn); both, for a tree of any depth. The first leaf of a tree at a path, or behind it (firstFrom). What is told: First, Last, Ahead, Behind. First, Last, Ahead, Behind: the points that they tell. The chapter's example, and whether paths are short. Whether points' paths are short. Points as a law holds them: the calls on two of them, in any later world. Whether a point is a tree's (Check), the program's and the document's. Selections: SameSel, CheckSel, the program's and the document's. -/
import Derived.Test.YtdjajpookmmafaaKCmp
import Derived.Test.YtdjajpookmmafaaIBase
import Derived.Test.YtdjajpookmmafaaTPths
import Derived.Lib.SliceRun
import Derived.Deep.RegionHeld3
import Derived.Test.YtdjajpookmmafaaTOrd
import Derived.Test.YtdjajpookmmafaaKPts
import Derived.Test.YtdjajpookmmafaaTGets
import Derived.Test.YtdjajpookmmafaaTLives
namespace Go.Proofs.Ytdjajpookmmafaa
open Go.RowKit

/-- A new point. -/
def NewPt (w : World) (p : List Int × Int) (w' : World) (v : Value) : Prop := ∃ A c, v = .agg #[.slice A p.1.length c, .int .i64 p.2] ∧ OwnI w' w.heap.size (.slice A p.1.length c) p.1
def NewPtE (w : World) (p : List Int × Int) (e : Ending) (w' : World) : Prop := ∃ v, e = .returned v ∧ NewPt w p w' v ∧ Below w.heap.size w w'
set_option maxRecDepth 4000 in
theorem NewPt.open_ {w w' : World} {p : List Int × Int} {v : Value} (h : NewPt w p w' v) : ∃ A c, v = .agg #[.slice A p.1.length c, .int .i64 p.2] ∧ p.1.length ≤ c ∧ IL w' w'.heap.size A p.1 := by
  obtain ⟨A, c, e, h⟩ := h
  obtain ⟨A', c', e', h1, _, h2⟩ := h.open_
  injection e' with a1 _ a3
  subst a1 a3
  exact ⟨A, c, e, h1, h2⟩

/-! A block of two cells. -/
section
variable {w w' : World} {g : Nat} {a b x y : Value} {t : TypeId}
set_option maxRecDepth 4000 in
theorem blk2 (h : w.heap[g]? = some (.cells #[a, b] t (0, 0))) : w.cell? ⟨g, 0, none⟩ = some a ∧ w.cell? ⟨g, 1, none⟩ = some b ∧ w.frozen? ⟨g, 0, none⟩ = false ∧ w.frozen? ⟨g, 1, none⟩ = false := by
  refine ⟨?_, ?_, ?_, ?_⟩ <;> simp [World.cell?, World.frozen?, h]
set_option maxRecDepth 4000 in
theorem set_blk (w : World) (g : Nat) (t : TypeId) (cs : Array Value) (k : Nat) (x : Value) (h : w.heap[g]? = some (.cells cs t (0, 0))) : (w.setCell ⟨g, k, none⟩ x).heap[g]? = some (.cells (cs.setIfInBounds k x) t (0, 0)) := by
  have hlt := lt_of_block h
  have h' : w.heap[g] = .cells cs t (0, 0) := by simpa [Array.getElem?_eq_getElem hlt] using h
  show (w.heap.modify g _)[g]? = _
  rw [Array.getElem?_eq_getElem (by simpa using hlt), Array.getElem_modify_self, h']
  rfl
set_option maxRecDepth 4000 in
theorem blk2_0 (h : w.heap[g]? = some (.cells #[a, b] t (0, 0))) (x : Value) : (w.setCell ⟨g, 0, none⟩ x).heap[g]? = some (.cells #[x, b] t (0, 0)) := set_blk w g t _ 0 x h
set_option maxRecDepth 4000 in
theorem blk2_both (h : w.heap[g]? = some (.cells #[a, b] t (0, 0))) (x y : Value) : ((w.setCell ⟨g, 0, none⟩ x).setCell ⟨g, 1, none⟩ y).heap[g]? = some (.cells #[x, y] t (0, 0)) := set_blk _ g t _ 1 y (set_blk w g t _ 0 x h)
set_option maxRecDepth 4000 in
theorem blk_far {cs : Array Value} {g' k : Nat} (h : w.heap[g]? = some (.cells cs t (0, 0))) (hne : g ≠ g') (x : Value) : (w.setCell ⟨g', k, none⟩ x).heap[g]? = some (.cells cs t (0, 0)) := (Below.heap_setCell _ _ _ _ hne).trans h
end
set_option maxRecDepth 4000 in
theorem pt_new (w : World) (o o' : Obj) : ((w.alloc o).alloc o').heap[w.heap.size]? = some o ∧ ((w.alloc o).alloc o').heap[w.heap.size + 1]? = some o' := by
  refine ⟨?_, ?_⟩
  · rw [Below.heap_alloc _ _ _ (by simp)]; exact heap_alloc_new _ _
  · rw [← sz1 (w := w) (A := o)]; exact heap_alloc_new _ _

set_option maxRecDepth 4000 in
theorem made_none : madeCells #[Value.int .i64 0] 0 = #[] := by simp [madeCells, Array.range]
set_option maxRecDepth 4000 in
theorem clone_any (A : Option Addr) (l : List Int) (n c : Nat) (w : World) (hn : l.length = n) (hl : n ≤ 1000) (hp : IL w w.heap.size A l) :
    Calls Try.prog 45 #[.slice A n c] w (NewP w l) := by
  have HP := hd hp
  have HN := hd hn
  clear hp hn
  rcases A with _ | a
  · have hnil := fun W => Go.Lib.run_eql_slice_nil (P := Try.prog) W 22 3 none n c 0 0 Try.underlying22
    have HL := hd (show l = [] by
      rcases Classical.em (l = []) with h | h
      · exact h
      · obtain ⟨_, _, h, _⟩ := HP.out h; cases h)
    go_enter Try.func45, Try.ntmps45
    go_wp2
    go_ret
    exact ⟨_, rfl, by rw [HL.out]; exact OwnI.nil _ _, Below.refl _ _⟩
  · have hnil := fun W => Go.Lib.run_eql_slice_nil (P := Try.prog) W 22 3 (some a) n c 0 0 Try.underlying22
    go_enter Try.func45, Try.ntmps45
    have HO := hd (show OwnI (w.alloc (.cells #[] 3)) w.heap.size (.slice (some ⟨w.heap.size, 0, none⟩) 0 0) [] from made_none ▸ OwnI.made w w.heap.size 0 (by omega) (Nat.le_refl _))
    go_wp2_with (at_builtin; (refine wpList_append_L _ rfl (.tmp 5) (.tmp 6) rfl w.heap.size (.slice (some ⟨w.heap.size, 0, none⟩) 0 0) [] l rfl HO.out (some a) n c w.heap.size rfl HN.out (HP.out.below ((Below.refl _ _).alloc (Nat.le_refl _) _)) (by have := HN.out; simp; omega) (by simp) ?_; intro v' w1 ho1 hg1))
    go_ret
    exact ⟨v', rfl, by simpa using ho1, hg1.below _ _ (Nat.le_refl _) (by simp) ((Below.refl _ _).alloc (Nat.le_refl _) _)⟩

set_option maxRecDepth 4000 in
theorem OwnI.pt {w : World} {B g : Nat} {u a b x y : Value} {l : List Int} (h : OwnI w B u l) (hg : w.heap[g]? = some (.cells #[a, b] 29 (0, 0))) : OwnI (w.setCell ⟨g, 0, none⟩ x) B u l ∧ OwnI ((w.setCell ⟨g, 0, none⟩ x).setCell ⟨g, 1, none⟩ y) B u l :=
  ⟨h.set hg (by decide), (h.set hg (by decide)).set (blk2_0 hg x) (by decide)⟩

/-- Two new points, and whether they are turned. -/
def NewTwo (w : World) (p q : List Int × Int) (t : Bool) (e : Ending) (w' : World) : Prop := ∃ u v, e = .returned (.tuple #[u, v, .bool t]) ∧ NewPt w p w' u ∧ NewPt w q w' v ∧ Below w.heap.size w w'
set_option maxRecDepth 4000 in
theorem three_new (w : World) (o o' o2 : Obj) : (((w.alloc o).alloc o').alloc o2).heap[w.heap.size]? = some o ∧ (((w.alloc o).alloc o').alloc o2).heap[w.heap.size + 1]? = some o' ∧ (((w.alloc o).alloc o').alloc o2).heap[w.heap.size + 1 + 1]? = some o2 := by
  have h := pt_new w o o'
  refine ⟨?_, ?_, ?_⟩
  · rw [Below.heap_alloc _ _ _ (by simp; omega)]; exact h.1
  · rw [Below.heap_alloc _ _ _ (by simp)]; exact h.2
  · rw [show w.heap.size + 1 + 1 = ((w.alloc o).alloc o').heap.size by simp]; exact heap_alloc_new _ _
set_option maxRecDepth 4000 in
theorem NewPt.kept {w W0 w1 w2 W : World} {A : Option Addr} {l : List Int} {n c g g' : Nat} {a b a' b' : Value} (h : OwnI w1 W0.heap.size (.slice A n c) l) (hb : Below w1.heap.size w1 w2) (hg : w2.heap[g]? = some (.cells #[a, b] 29 (0, 0))) (hg' : w2.heap[g']? = some (.cells #[a', b'] 29 (0, 0))) (hne : g' ≠ g) (x y x' y' : Value)
    (hW : W = (((w2.setCell ⟨g, 0, none⟩ x).setCell ⟨g, 1, none⟩ y).setCell ⟨g', 0, none⟩ x').setCell ⟨g', 1, none⟩ y') (hs : w.heap.size ≤ W0.heap.size) : OwnI W w.heap.size (.slice A n c) l := by
  subst hW
  have h1 := ((h.below hb).pt (x := x) (y := y) hg).2
  have hg2 := blk_far (k := 1) (blk_far (k := 0) hg' hne x) hne y
  exact ((h1.pt (x := x') (y := y') hg2).2).weaken hs

set_option maxRecDepth 4000 in
theorem pts_stored {w W : World} (h : Below w.heap.size w W) (a b c d : Value) : Below w.heap.size w ((((W.setCell ⟨w.heap.size + 1, 0, none⟩ a).setCell ⟨w.heap.size + 1, 1, none⟩ b).setCell ⟨w.heap.size + 1 + 1, 0, none⟩ c).setCell ⟨w.heap.size + 1 + 1, 1, none⟩ d) :=
  (((h.setCell (by show _ ≤ w.heap.size + 1; omega) a).setCell (by show _ ≤ w.heap.size + 1; omega) b).setCell (by show _ ≤ w.heap.size + 1 + 1; omega) c).setCell (by show _ ≤ w.heap.size + 1 + 1; omega) d
end Go.Proofs.Ytdjajpookmmafaa

namespace Go.Proofs.Ytdjajpookmmafaa

def offT (n : NT) (q : List Int) : Int := match getO n q with
  | none => 0
  | some m => m.tx.length
def chkP (n : NT) (p : List Int × Int) : Int := match getO n p.1 with
  | none => 5
  | some m => if m.lf = false then 7 else if p.2 < 0 ∨ (m.tx.length : Int) < p.2 then 8 else 0

/-- Which leaves stand ahead of a path, and are not above it; which do not stand ahead of it. -/
def aheadB (p q : List Int) : Bool := decide (cmpL q p < 0) && !aboveL q p
def fromB (p q : List Int) : Bool := decide (0 ≤ cmpL q p)
def allB (_ : List Int) : Bool := true
/-- The last leaf of these, the first one of these. -/
def LastIs (n : NT) (F : List Int → Bool) : Option (List Int) → Prop
  | none => ∀ z, leafB n z = true → F z = false
  | some q => leafB n q = true ∧ F q = true ∧ ∀ z, leafB n z = true → F z = true → cmpL z q ≤ 0
def FirstIs (n : NT) (F : List Int → Bool) : Option (List Int) → Prop
  | none => ∀ z, leafB n z = true → F z = false
  | some q => leafB n q = true ∧ F q = true ∧ ∀ z, leafB n z = true → F z = true → cmpL q z ≤ 0
set_option maxRecDepth 4000 in
theorem LastIs.same {n : NT} {F : List Int → Bool} {a b : Option (List Int)} (ha : LastIs n F a) (hb : LastIs n F b) : a = b := by
  cases a with
  | none =>
    cases b with
    | none => rfl
    | some q => have := ha q hb.1; rw [hb.2.1] at this; cases this
  | some p =>
    cases b with
    | none => have := hb p ha.1; rw [ha.2.1] at this; cases this
    | some q => rw [cmpL_both (hb.2.2 p ha.1 ha.2.1) (ha.2.2 q hb.1 hb.2.1)]
set_option maxRecDepth 4000 in
theorem FirstIs.same {n : NT} {F : List Int → Bool} {a b : Option (List Int)} (ha : FirstIs n F a) (hb : FirstIs n F b) : a = b := by
  cases a with
  | none =>
    cases b with
    | none => rfl
    | some q => have := ha q hb.1; rw [hb.2.1] at this; cases this
  | some p =>
    cases b with
    | none => have := hb p ha.1; rw [ha.2.1] at this; cases this
    | some q => rw [cmpL_both (ha.2.2 q hb.1 hb.2.1) (hb.2.2 p ha.1 ha.2.1)]

set_option maxRecDepth 4000 in
theorem leafB_nil (n : NT) : leafB n [] = n.lf := rfl
set_option maxRecDepth 4000 in
theorem leafB_kid {n m : NT} {i : Nat} (h : n.ks[i]? = some m) (z : List Int) : leafB n ((i : Int) :: z) = leafB m z := by
  have e : kidT n (i : Int) = some m := by unfold kidT; rw [if_pos (by omega)]; simpa using h
  unfold leafB
  rw [getO_cons, e]; rfl
set_option maxRecDepth 4000 in
theorem offT_kid {n m : NT} {i : Nat} (h : n.ks[i]? = some m) (z : List Int) : offT n ((i : Int) :: z) = offT m z := by
  have e : kidT n (i : Int) = some m := by unfold kidT; rw [if_pos (by omega)]; simpa using h
  unfold offT
  rw [getO_cons, e]; rfl
set_option maxRecDepth 4000 in
theorem leafB_cons {n : NT} {a : Int} {z : List Int} (h : leafB n (a :: z) = true) : ∃ (i : Nat) (m : NT), a = (i : Int) ∧ n.ks[i]? = some m ∧ leafB m z = true := by
  unfold leafB at h
  rw [getO_cons] at h
  cases hk : kidT n a with
  | none => rw [hk] at h; cases h
  | some m =>
    have e := kid_has hk
    refine ⟨a.toNat, m, by omega, e.2.2, ?_⟩
    rw [hk] at h
    exact h
set_option maxRecDepth 4000 in
theorem getO_short : ∀ (p : List Int) (n m : NT), getO n p = some m → p.length + sizeT m ≤ sizeT n
  | [], n, m, h => by rw [getO] at h; injection h with h; rw [h]; simp
  | a :: r, n, m, h => by
    rw [getO_cons] at h
    cases hk : kidT n a with
    | none => rw [hk] at h; cases h
    | some k =>
      rw [hk] at h
      have h1 := getO_short r k m h
      have h2 := sizeT_kid (kid_has hk).2.2
      have h3 : sizeK n.ks < sizeT n := by cases n; rw [sizeT]; simp only [NT.ks]; omega
      simp only [List.length_cons]; omega
set_option maxRecDepth 4000 in
theorem leafB_short {n : NT} {p : List Int} (h : leafB n p = true) : p.length < sizeT n + 1 := by
  unfold leafB at h
  cases hg : getO n p with
  | none => rw [hg] at h; cases h
  | some m => have := getO_short p n m hg; omega

/-! The last leaf ahead of a path: by the Kids, from the last one on. -/
/-- Which of a Kid's leaves are asked for, ahead of x :: r. -/
def kidA (x : Int) (r : List Int) (i : Nat) : List Int → Bool := if (i : Int) = x then aheadB r else allB
set_option maxRecDepth 4000 in
theorem aheadB_nil (q : List Int) : aheadB [] q = false := by
  unfold aheadB
  cases q <;> simp [cmpL]
set_option maxRecDepth 4000 in
theorem aheadB_top (x : Int) (r : List Int) : aheadB (x :: r) [] = false := by
  unfold aheadB aboveL
  simp [alikeN]
set_option maxRecDepth 4000 in
theorem aheadB_kid (x : Int) (r : List Int) (i : Nat) (z : List Int) (h : (i : Int) ≤ x) : aheadB (x :: r) ((i : Int) :: z) = kidA x r i z := by
  unfold kidA
  by_cases e : (i : Int) = x
  · rw [if_pos e, ← e]
    unfold aheadB
    rw [cmpL_cons, aboveL_cons]
  · rw [if_neg e]
    unfold aheadB
    rw [aboveL_ne _ _ e, cmpL, if_pos (by omega)]; rfl
set_option maxRecDepth 4000 in
theorem aheadB_beyond (x : Int) (r : List Int) (i : Nat) (z : List Int) (h : ¬ (i : Int) ≤ x) : aheadB (x :: r) ((i : Int) :: z) = false := by
  unfold aheadB
  rw [cmpL, if_neg (by omega), if_pos (by omega)]; rfl
set_option maxRecDepth 4000 in
theorem ahead_nil (n : NT) : LastIs n (aheadB []) none := fun z _ => aheadB_nil z
set_option maxRecDepth 4000 in
theorem ahead_none {n : NT} {x : Int} {r : List Int} (h : ∀ (i : Nat) (m : NT), (i : Int) ≤ x → n.ks[i]? = some m → LastIs m (kidA x r i) none) : LastIs n (aheadB (x :: r)) none := fun z hz => by
  cases z with
  | nil => exact aheadB_top x r
  | cons a z =>
    obtain ⟨i, m, rfl, hm, hl⟩ := leafB_cons hz
    by_cases hi : (i : Int) ≤ x
    · rw [aheadB_kid x r i z hi]
      exact h i m hi hm z hl
    · exact aheadB_beyond x r i z hi
set_option maxRecDepth 4000 in
theorem ahead_some {n m : NT} {x : Int} {r : List Int} {i : Nat} {q : List Int} (hi : (i : Int) ≤ x) (hm : n.ks[i]? = some m) (hq : LastIs m (kidA x r i) (some q)) (h : ∀ (j : Nat) (k : NT), i < j → (j : Int) ≤ x → n.ks[j]? = some k → LastIs k (kidA x r j) none) : LastIs n (aheadB (x :: r)) (some ((i : Int) :: q)) := by
  refine ⟨by rw [leafB_kid hm]; exact hq.1, by rw [aheadB_kid x r i q hi]; exact hq.2.1, fun z hz ha => ?_⟩
  cases z with
  | nil => rw [aheadB_top] at ha; cases ha
  | cons a z =>
    obtain ⟨j, k, rfl, hk, hl⟩ := leafB_cons hz
    by_cases hj : (j : Int) ≤ x
    · rw [aheadB_kid x r j z hj] at ha
      by_cases hij : i < j
      · have := h j k hij hj hk z hl
        rw [ha] at this; cases this
      · by_cases e : i = j
        · subst e
          rw [hm] at hk
          injection hk with hk
          subst hk
          rw [cmpL_cons]
          exact hq.2.2 z hl ha
        · rw [cmpL, if_pos (by omega)]; omega
    · rw [aheadB_beyond x r j z hj] at ha; cases ha
set_option maxRecDepth 4000 in
/-- All leaves of a node: those ahead of the place behind its Kids, and itself. -/
theorem last_kids {n : NT} {q : List Int} (h : LastIs n (aheadB [(n.ks.length : Int)]) (some q)) : LastIs n allB (some q) := by
  refine ⟨h.1, rfl, fun z hz _ => ?_⟩
  cases z with
  | nil => cases q <;> simp [cmpL]
  | cons a z =>
    refine h.2.2 _ hz ?_
    obtain ⟨i, m, rfl, hm, hl⟩ := leafB_cons hz
    have hi := (List.getElem?_eq_some_iff.1 hm).1
    rw [aheadB_kid _ _ _ _ (by omega)]
    unfold kidA
    rw [if_neg (by omega)]; rfl
set_option maxRecDepth 4000 in
theorem last_self {n : NT} (h : LastIs n (aheadB [(n.ks.length : Int)]) none) : LastIs n allB (if n.lf = true then some [] else none) := by
  have hz : ∀ z, leafB n z = true → z = [] := fun z hz => by
    cases z with
    | nil => rfl
    | cons a z =>
      obtain ⟨i, m, rfl, hm, hl⟩ := leafB_cons hz
      have hi := (List.getElem?_eq_some_iff.1 hm).1
      have := h _ hz
      rw [aheadB_kid _ _ _ _ (by omega)] at this
      unfold kidA at this
      rw [if_neg (by omega)] at this
      cases this
  split
  · rename_i hl
    refine ⟨hl, rfl, fun z h2 _ => ?_⟩
    rw [hz z h2]; decide
  · rename_i hl
    intro z h2
    rw [hz z h2, leafB_nil] at h2
    exact absurd h2 hl

/-! The first leaf from a path on. -/
def kidF (x : Int) (r : List Int) (i : Nat) : List Int → Bool := fromB (if (i : Int) = x then r else [])
set_option maxRecDepth 4000 in
theorem fromB_nil (q : List Int) : fromB [] q = true := by
  unfold fromB
  cases q <;> simp [cmpL]
set_option maxRecDepth 4000 in
theorem fromB_top (x : Int) (r : List Int) : fromB (x :: r) [] = false := by
  unfold fromB
  simp [cmpL]
set_option maxRecDepth 4000 in
theorem fromB_kid (x : Int) (r : List Int) (i : Nat) (z : List Int) (h : x ≤ (i : Int)) : fromB (x :: r) ((i : Int) :: z) = kidF x r i z := by
  unfold kidF
  by_cases e : (i : Int) = x
  · rw [if_pos e, ← e]
    unfold fromB
    rw [cmpL_cons]
  · rw [if_neg e, fromB_nil]
    unfold fromB
    rw [cmpL, if_neg (by omega), if_pos (by omega)]; rfl
set_option maxRecDepth 4000 in
theorem fromB_before (x : Int) (r : List Int) (i : Nat) (z : List Int) (h : ¬ x ≤ (i : Int)) : fromB (x :: r) ((i : Int) :: z) = false := by
  unfold fromB
  rw [cmpL, if_pos (by omega)]; rfl
set_option maxRecDepth 4000 in
theorem from_self {n : NT} (h : n.lf = true) : FirstIs n (fromB []) (some []) := ⟨h, rfl, fun z _ _ => by cases z <;> simp [cmpL]⟩
set_option maxRecDepth 4000 in
theorem from_zero {n : NT} (h : n.lf = false) {o : Option (List Int)} (ho : FirstIs n (fromB [0]) o) : FirstIs n (fromB []) o := by
  have hz : ∀ z, leafB n z = true → fromB [0] z = true := fun z hz => by
    cases z with
    | nil => rw [leafB_nil, h] at hz; cases hz
    | cons a z =>
      obtain ⟨i, m, rfl, hm, hl⟩ := leafB_cons hz
      rw [fromB_kid _ _ _ _ (by omega)]
      unfold kidF
      split <;> exact fromB_nil z
  cases o with
  | none => exact fun z h2 => by have := ho z h2; rw [hz z h2] at this; cases this
  | some q => exact ⟨ho.1, fromB_nil q, fun z h2 _ => ho.2.2 z h2 (hz z h2)⟩
set_option maxRecDepth 4000 in
theorem from_none {n : NT} {x : Int} {r : List Int} (h : ∀ (i : Nat) (m : NT), x ≤ (i : Int) → n.ks[i]? = some m → FirstIs m (kidF x r i) none) : FirstIs n (fromB (x :: r)) none := fun z hz => by
  cases z with
  | nil => exact fromB_top x r
  | cons a z =>
    obtain ⟨i, m, rfl, hm, hl⟩ := leafB_cons hz
    by_cases hi : x ≤ (i : Int)
    · rw [fromB_kid x r i z hi]
      exact h i m hi hm z hl
    · exact fromB_before x r i z hi
set_option maxRecDepth 4000 in
theorem from_some {n m : NT} {x : Int} {r : List Int} {i : Nat} {q : List Int} (hi : x ≤ (i : Int)) (hm : n.ks[i]? = some m) (hq : FirstIs m (kidF x r i) (some q)) (h : ∀ (j : Nat) (k : NT), j < i → x ≤ (j : Int) → n.ks[j]? = some k → FirstIs k (kidF x r j) none) : FirstIs n (fromB (x :: r)) (some ((i : Int) :: q)) := by
  refine ⟨by rw [leafB_kid hm]; exact hq.1, by rw [fromB_kid x r i q hi]; exact hq.2.1, fun z hz ha => ?_⟩
  cases z with
  | nil => rw [fromB_top] at ha; cases ha
  | cons a z =>
    obtain ⟨j, k, rfl, hk, hl⟩ := leafB_cons hz
    by_cases hj : x ≤ (j : Int)
    · rw [fromB_kid x r j z hj] at ha
      by_cases hij : j < i
      · have := h j k hij hj hk z hl
        rw [ha] at this; cases this
      · by_cases e : i = j
        · subst e
          rw [hm] at hk
          injection hk with hk
          subst hk
          rw [cmpL_cons]
          exact hq.2.2 z hl ha
        · rw [cmpL, if_pos (by omega)]; omega
    · rw [fromB_before x r j z hj] at ha; cases ha

/-! The same by the list of the leaves. -/
def lvs (n : NT) : List (List Int) := pathsN true n []
set_option maxRecDepth 4000 in
theorem lvs_mem {n : NT} {z : List Int} : z ∈ lvs n ↔ leafB n z = true := by
  unfold lvs
  rw [leaves_are, List.mem_filter, paths_just]
  refine ⟨fun h => h.2, fun h => ⟨?_, h⟩⟩
  unfold leafB at h
  cases hg : getO n z with
  | none => rw [hg] at h; cases h
  | some m => rfl
set_option maxRecDepth 4000 in
theorem lvs_rise (n : NT) : (lvs n).Pairwise fun a b => cmpL a b = -1 := by
  unfold lvs
  rw [leaves_are]
  exact (paths_rise n).filter _
set_option maxRecDepth 4000 in
theorem lvs_at {n : NT} {i j : Nat} (h : i < j) (hj : j < (lvs n).length) : cmpL (lAt (lvs n) i) (lAt (lvs n) j) = -1 := by
  rw [lAt_eq _ _ (by omega), lAt_eq _ _ hj]
  exact List.pairwise_iff_getElem.1 (lvs_rise n) i j (by omega) hj h
set_option maxRecDepth 4000 in
theorem lvs_leaf {n : NT} {i : Nat} (h : i < (lvs n).length) : leafB n (lAt (lvs n) i) = true := by
  rw [lAt_eq _ _ h, ← lvs_mem]; exact List.getElem_mem _
set_option maxRecDepth 4000 in
theorem lvs_have {n : NT} {z : List Int} (h : leafB n z = true) : ∃ i, i < (lvs n).length ∧ lAt (lvs n) i = z := by
  obtain ⟨i, hi, e⟩ := List.getElem_of_mem (lvs_mem.2 h)
  exact ⟨i, hi, by rw [lAt_eq _ _ hi]; exact e⟩
/-- The last one of the first k leaves, and the first one of them. -/
def lastTo (n : NT) (F : List Int → Bool) : Nat → Option (List Int)
  | 0 => none
  | k + 1 => if F (lAt (lvs n) k) = true then some (lAt (lvs n) k) else lastTo n F k
set_option maxRecDepth 4000 in
theorem lastTo_is {n : NT} {F : List Int → Bool} : ∀ k, k ≤ (lvs n).length → match lastTo n F k with
    | none => ∀ j, j < k → F (lAt (lvs n) j) = false
    | some q => ∃ i, i < k ∧ lAt (lvs n) i = q ∧ F q = true ∧ ∀ j, j < k → i < j → F (lAt (lvs n) j) = false
  | 0, _ => fun j hj => absurd hj (Nat.not_lt_zero _)
  | k + 1, hk => by
    have ih := lastTo_is (n := n) (F := F) k (by omega)
    rw [lastTo]
    by_cases hf : F (lAt (lvs n) k) = true
    · rw [if_pos hf]
      exact ⟨k, by omega, rfl, hf, fun j h1 h2 => by omega⟩
    · rw [if_neg hf]
      have hf' : F (lAt (lvs n) k) = false := by simpa using hf
      cases hl : lastTo n F k with
      | none =>
        rw [hl] at ih
        intro j hj
        rcases (show j < k ∨ j = k by omega) with h | rfl
        · exact ih j h
        · exact hf'
      | some q =>
        rw [hl] at ih
        obtain ⟨i, h1, h2, h3, h4⟩ := ih
        refine ⟨i, by omega, h2, h3, fun j hj hij => ?_⟩
        rcases (show j < k ∨ j = k by omega) with h | rfl
        · exact h4 j h hij
        · exact hf'
set_option maxRecDepth 4000 in
theorem lastTo_all (n : NT) (F : List Int → Bool) : LastIs n F (lastTo n F (lvs n).length) := by
  have h := lastTo_is (n := n) (F := F) _ (Nat.le_refl _)
  cases hl : lastTo n F (lvs n).length with
  | none =>
    rw [hl] at h
    intro z hz
    obtain ⟨i, hi, rfl⟩ := lvs_have hz
    exact h i hi
  | some q =>
    rw [hl] at h
    obtain ⟨i, h1, rfl, h3, h4⟩ := h
    refine ⟨lvs_leaf h1, h3, fun z hz hF => ?_⟩
    obtain ⟨j, hj, rfl⟩ := lvs_have hz
    rcases (show j < i ∨ j = i ∨ i < j by omega) with h | rfl | h
    · rw [lvs_at h h1]; omega
    · rw [cmpL_refl]; omega
    · rw [h4 j hj h] at hF; cases hF
set_option maxRecDepth 4000 in
theorem firstAt {n : NT} {F : List Int → Bool} {k : Nat} (hk : k < (lvs n).length) (hF : F (lAt (lvs n) k) = true) (h : ∀ j, j < k → F (lAt (lvs n) j) = false) : FirstIs n F (some (lAt (lvs n) k)) := by
  refine ⟨lvs_leaf hk, hF, fun z hz h2 => ?_⟩
  obtain ⟨j, hj, rfl⟩ := lvs_have hz
  rcases (show j < k ∨ j = k ∨ k < j by omega) with h3 | rfl | h3
  · rw [h j h3] at h2; cases h2
  · rw [cmpL_refl]; omega
  · rw [lvs_at h3 hj]; omega
set_option maxRecDepth 4000 in
theorem firstNo {n : NT} {F : List Int → Bool} (h : ∀ j, j < (lvs n).length → F (lAt (lvs n) j) = false) : FirstIs n F none := fun z hz => by
  obtain ⟨i, hi, rfl⟩ := lvs_have hz
  exact h i hi
set_option maxRecDepth 4000 in
theorem lvs_first {n : NT} (h : 0 < (lvs n).length) : FirstIs n (fromB []) (some (lAt (lvs n) 0)) := firstAt h (fromB_nil _) fun j hj => by omega
set_option maxRecDepth 4000 in
theorem lvs_last {n : NT} {k : Nat} (h : (lvs n).length = k + 1) : LastIs n allB (some (lAt (lvs n) k)) := by
  refine ⟨lvs_leaf (by omega), rfl, fun z hz _ => ?_⟩
  obtain ⟨j, hj, rfl⟩ := lvs_have hz
  rcases (show j < k ∨ j = k by omega) with h1 | rfl
  · rw [lvs_at (n := n) h1 (by omega)]; omega
  · rw [cmpL_refl]; omega
set_option maxRecDepth 4000 in
theorem lvs_none {n : NT} (h : (lvs n).length = 0) (z : List Int) : leafB n z = false := by
  cases hl : leafB n z with
  | false => rfl
  | true => obtain ⟨i, hi, _⟩ := lvs_have hl; omega

set_option maxRecDepth 4000 in
theorem chkP_leaf {n : NT} {p : List Int × Int} : chkP n p = 0 ↔ leafB n p.1 = true ∧ 0 ≤ p.2 ∧ p.2 ≤ offT n p.1 := by
  unfold chkP leafB offT
  cases getO n p.1 with
  | none => simp
  | some m =>
    simp only
    cases m.lf with
    | false => simp
    | true =>
      simp only [Bool.true_eq_false, if_false, true_and]
      split <;> omega

end Go.Proofs.Ytdjajpookmmafaa

namespace Go.Proofs.Ytdjajpookmmafaa
open Go.RowKit
open Go.WideShapes (add_plain)

/-- One number appended to a row of the call's own. -/
theorem wpList_append_one (W : World) {ops : Array Oper} {rest : List Oper} {o : Oper} {a : Act} {Q : Exit → Act → World → Prop} (hgd : o.guard = none) (s x : Operand)
    (ho : o.op = .call { callee := .builtin .append, args := #[s, x], argTypes := #[22, 22] })
    (b : Nat) (v : Value) (k : List Int) (i : Int) (hs : a.eval s = v) (hO : OwnI W b v k) (ad : Addr) (c : Nat) (hx : a.eval x = .slice (some ad) 1 c) (hc : W.cell? (ad.add 0) = some (.int .i64 i)) (hlen : k.length ≤ 100000000) (hb : b ≤ W.heap.size)
    (hK : ∀ v' w', OwnI w' b v' (k ++ [i]) → W.grownBy w' v.ownBlock → wpList Try.prog ops Q rest (a.put o.dst v') w') :
    wpList Try.prog ops Q (o :: rest) a W := by
  obtain ⟨i0, hi, hz0, hz1, hz2⟩ := info_parts intInfo
  refine wpList_append_own _ hgd s x 22 ho b 3 i0 _ 1 8 Try.underlying22 hi hz0 hz1 hz2 rfl (by decide) v k.length (k.map (Value.int .i64)) hs hO.own ad 1 c [.int .i64 i] hx (by simp) (fun j u hj => ?_) (by simp [Value.oneCell'])
    (by unfold maxLen; omega) (by omega) hb (fun v' w' h1 h2 _ => hK v' w' (OwnI.of_own (n := k.length + 1) (by rw [List.map_append]; exact h1) (by simp)) h2)
  match j, hj with
  | 0, hj =>
    simp at hj; subst hj
    exact hc
  | j + 1, hj => simp at hj

set_option maxRecDepth 4000 in
theorem OwnI.more_pts {w : World} {B : Nat} {u : Value} {l : List Int} (h : OwnI w B u l) (o o' : Obj) : OwnI ((w.alloc o).alloc o') B u l := h.below (below_mono2 (Below.refl _ _) (Nat.le_refl _))

/-- A point whose path is a row of the call's own. -/
def GotPt (B : Nat) (w : World) (l : List Int) (o : Int) (e : Ending) (w' : World) : Prop := ∃ A n c, n = l.length ∧ e = .returned (.agg #[.slice A n c, .int .i64 o]) ∧ OwnI w' B (.slice A n c) l ∧ Below B w w'

end Go.Proofs.Ytdjajpookmmafaa

namespace Go.Proofs.Ytdjajpookmmafaa
open Go.RowKit

/-- The list with the first k and the last k numbers changed for one another. -/
def revTo (l : List Int) : Nat → List Int
  | 0 => l
  | k + 1 => ((revTo l k).set k (iAt (revTo l k) (l.length - 1 - k))).set (l.length - 1 - k) (iAt (revTo l k) k)
set_option maxRecDepth 4000 in
theorem revTo_length (l : List Int) : ∀ k, (revTo l k).length = l.length
  | 0 => rfl
  | k + 1 => by rw [revTo, List.length_set, List.length_set, revTo_length l k]
set_option maxRecDepth 4000 in
theorem iAt_set (l : List Int) (k j : Nat) (v : Int) (_hk : k < l.length) (hj : j < l.length) : iAt (l.set k v) j = if j = k then v else iAt l j := by
  rw [iAt_eq _ j (by simpa using hj), List.getElem_set]
  by_cases h : k = j
  · rw [if_pos h, if_pos h.symm]
  · rw [if_neg h, if_neg (fun e => h e.symm), iAt_eq l j hj]
set_option maxRecDepth 4000 in
theorem revTo_at (l : List Int) : ∀ (k j : Nat), 2 * k ≤ l.length → j < l.length → iAt (revTo l k) j = if j < k ∨ l.length - 1 - j < k then iAt l (l.length - 1 - j) else iAt l j
  | 0, j, _, hj => by rw [revTo, if_neg (by omega)]
  | k + 1, j, hk, hj => by
    have hl := revTo_length l k
    obtain ⟨m, hm⟩ : ∃ m, m = l.length - 1 - k := ⟨_, rfl⟩
    have h1 := revTo_at l k
    have g1 : iAt (revTo l k) k = iAt l k := by rw [h1 k (by omega) (by omega), if_neg (by omega)]
    have g2 : iAt (revTo l k) m = iAt l m := by rw [h1 m (by omega) (by omega), if_neg (by omega)]
    rw [revTo, ← hm, g1, g2, iAt_set _ _ _ _ (by rw [List.length_set]; omega) (by rw [List.length_set]; omega), iAt_set _ _ _ _ (by omega) (by omega)]
    by_cases e1 : j = m
    · rw [if_pos e1, if_pos (by omega), show l.length - 1 - j = k by omega]
    · rw [if_neg e1]
      by_cases e2 : j = k
      · rw [if_pos e2, if_pos (by omega), show l.length - 1 - j = m by omega]
      · rw [if_neg e2, h1 j (by omega) hj]
        by_cases h : j < k ∨ l.length - 1 - j < k
        · rw [if_pos h, if_pos (by omega)]
        · rw [if_neg h, if_neg (by omega)]
set_option maxRecDepth 4000 in
theorem revTo_all (l : List Int) (k : Nat) (hk : 2 * k ≤ l.length) (h : l.length ≤ 2 * k + 1) : revTo l k = l.reverse := by
  refine List.ext_getElem (by rw [revTo_length, List.length_reverse]) fun j h1 h2 => ?_
  rw [revTo_length] at h1
  have h3 := revTo_at l k j hk h1
  rw [iAt_eq _ j (by rw [revTo_length]; exact h1)] at h3
  rw [h3, List.getElem_reverse]
  by_cases h4 : j < k ∨ l.length - 1 - j < k
  · rw [if_pos h4, iAt_eq _ _ (by omega)]
  · rw [if_neg h4, iAt_eq _ _ h1]
    congr 1; omega

set_option maxRecDepth 4000 in
theorem OwnI.two {w : World} {b : Nat} {v : Value} {l : List Int} (h : OwnI w b v l) (hl : 0 < l.length) : ∃ g c, v = .slice (some ⟨g, 0, none⟩) l.length c ∧ l.length ≤ c ∧ b ≤ g ∧ g < w.heap.size ∧ (∀ k, k < l.length → w.cell? ⟨g, k, none⟩ = some (.int .i64 (iAt l k))) ∧ (∀ k, w.frozen? ⟨g, k, none⟩ = false) ∧
    ∀ k u k' u', OwnI ((w.setCell ⟨g, k, none⟩ (.int .i64 u)).setCell ⟨g, k', none⟩ (.int .i64 u')) b v ((l.set k u).set k' u') := by
  obtain ⟨g, c, e, h1, _, h3, h4, h5, h6, h7⟩ := h.form hl
  refine ⟨g, c, e, h1, h3, h4, h5, h6, fun k u k' u' => ?_⟩
  obtain ⟨g', c', e', _, _, _, _, _, _, h8⟩ := (h7 k u).form (by simpa using hl)
  rw [e] at e'
  injection e' with a1 a2 a3
  injection a1 with a1
  injection a1 with a1
  subst a1
  exact h8 k' u'

set_option maxRecDepth 4000 in
theorem Below.other {B : Nat} {w w' : World} (h : Below B w w') {g k : Nat} (hg : B ≤ g) (x : Value) : Below B w (w'.setCell ⟨g, k, none⟩ x) := h.setCell hg x

end Go.Proofs.Ytdjajpookmmafaa

namespace Go.Proofs.Ytdjajpookmmafaa
open Go.RowKit

/-- What is told of a tree: a leaf's path, the other way round, and an Off. -/
def Got (w : World) (P : Option (List Int) → Prop) (f : List Int → Int) (e : Ending) (w' : World) : Prop := ∃ (r : Option (List Int)) (A : Option Addr) (k c : Nat) (o : Int), P r ∧ e = .returned (.tuple #[.agg #[.slice A k c, .int .i64 o], .bool r.isSome]) ∧ Below w.heap.size w w' ∧
  ∀ q, r = some q → k = q.length ∧ OwnI w' w.heap.size (.slice A k c) q.reverse ∧ o = f q
set_option maxRecDepth 4000 in
theorem pt_kept {g : Nat} {w w3 : World} (h : Below g w w3) (x y : Value) : Below g w ((w3.setCell ⟨g, 0, none⟩ x).setCell ⟨g, 1, none⟩ y) := (h.setCell (by exact Nat.le_refl _) x).setCell (by exact Nat.le_refl _) y

end Go.Proofs.Ytdjajpookmmafaa

namespace Go.Proofs.Ytdjajpookmmafaa
open Go.RowKit
end Go.Proofs.Ytdjajpookmmafaa

namespace Go.Proofs.Ytdjajpookmmafaa
open Go.RowKit
end Go.Proofs.Ytdjajpookmmafaa

namespace Go.Proofs.Ytdjajpookmmafaa
open Go.RowKit

/-- A new point and an error's number. -/
def ToldPt (B : Nat) (w : World) (p : List Int × Int) (er : Int) (e : Ending) (w' : World) : Prop := ∃ A n c, n = p.1.length ∧ e = .returned (.tuple #[.agg #[.slice A n c, .int .i64 p.2], .int .i64 er]) ∧ OwnI w' B (.slice A n c) p.1 ∧ Below B w w'
def pO (f : List Int → Int) : Option (List Int) → List Int × Int
  | none => ([], 0)
  | some q => (q, f q)
def eO : Option (List Int) → Int
  | none => 14
  | some _ => 0
def Tells (w : World) (P : Option (List Int) → Prop) (f : List Int → Int) (e : Ending) (w' : World) : Prop := ∃ r, P r ∧ ToldPt w.heap.size w (pO f r) (eO r) e w'

set_option maxRecDepth 4000 in
theorem LastIs.short {n : NT} {F : List Int → Bool} {r : Option (List Int)} (h : LastIs n F r) (hn : sizeT n ≤ 1048576) : ∀ q, r = some q → q.length ≤ 100000000 := fun q hq => by
  subst hq
  have := leafB_short h.1
  omega
set_option maxRecDepth 4000 in
theorem FirstIs.short {n : NT} {F : List Int → Bool} {r : Option (List Int)} (h : FirstIs n F r) (hn : sizeT n ≤ 1048576) : ∀ q, r = some q → q.length ≤ 100000000 := fun q hq => by
  subst hq
  have := leafB_short h.1
  omega

end Go.Proofs.Ytdjajpookmmafaa

namespace Go.Proofs.Ytdjajpookmmafaa
open Go.RowKit
end Go.Proofs.Ytdjajpookmmafaa

namespace Go.Proofs.Ytdjajpookmmafaa
open Go.RowKit

theorem ex_lvs : lvs exT = [[0], [1]] := rfl
set_option maxRecDepth 4000 in
theorem ex_last : LastIs exT allB (some [1]) := by
  have := lvs_last (n := exT) (k := 1) (by rw [ex_lvs]; rfl)
  rwa [ex_lvs] at this
set_option maxRecDepth 4000 in
theorem ex_size : sizeT exT ≤ 1048576 := by decide
set_option maxRecDepth 4000 in
theorem ex_po : pO (offT exT) (some [1]) = ([1], 2) := rfl
set_option maxRecDepth 4000 in
theorem ex_eo : eO (some [1]) = 0 := rfl

end Go.Proofs.Ytdjajpookmmafaa

namespace Go.Proofs.Ytdjajpookmmafaa
open Go.RowKit

/-- The row of points at block g: their paths' slices, their Offs. -/
def PtRow (w : World) (g : Nat) (P : List (Option Addr × Nat × Nat × Int)) : Prop := ∀ j q, P[j]? = some q → w.cell? ⟨g, j * 2, none⟩ = some (.slice q.1 q.2.1 q.2.2.1) ∧ w.cell? ⟨g, j * 2 + 1, none⟩ = some (.int .i64 q.2.2.2)
def shortB (P : List (Option Addr × Nat × Nat × Int)) : Bool := P.all fun q => decide (q.2.1 ≤ 50)
set_option maxRecDepth 4000 in
theorem PtRow.below {w w' : World} {g : Nat} {P : List (Option Addr × Nat × Nat × Int)} (h : PtRow w g P) (hg : g < w.heap.size) (hb : Below w.heap.size w w') : PtRow w' g P := fun j q hq =>
  ⟨(hb.cell (show g < _ from hg)).trans (h j q hq).1, (hb.cell (show g < _ from hg)).trans (h j q hq).2⟩

end Go.Proofs.Ytdjajpookmmafaa

namespace Go.Proofs.Ytdjajpookmmafaa
open Go.RowKit

/-- The value v is the point p. -/
def PtAt (w : World) (v : Value) (p : List Int × Int) : Prop := ∃ A n c, v = .agg #[.slice A n c, .int .i64 p.2] ∧ p.1.length = n ∧ n ≤ 10000000 ∧ n ≤ c ∧ IL w w.heap.size A p.1
set_option maxRecDepth 4000 in
theorem PtAt.later {w w' : World} {v : Value} {p : List Int × Int} (h : PtAt w v p) (hb : Below w.heap.size w w') : PtAt w' v p := by
  obtain ⟨A, n, c, e, h1, h2, h3, h4⟩ := h
  exact ⟨A, n, c, e, h1, h2, h3, h4.later hb⟩
set_option maxRecDepth 4000 in
theorem PtAt.of_new {w' : World} {p : List Int × Int} {A : Option Addr} {n c B : Nat} (h : OwnI w' B (.slice A n c) p.1) (hl : p.1.length ≤ 10000000) : PtAt w' (.agg #[.slice A n c, .int .i64 p.2]) p := by
  obtain ⟨A', c', e, h1, _, h2⟩ := h.open_
  injection e with e1 e2 e3
  subst e1 e2 e3
  exact ⟨A, _, c, rfl, rfl, hl, h1, h2⟩
set_option maxRecDepth 4000 in
theorem cmp_at {w W : World} {u v : Value} {p q : List Int × Int} (hb : Below w.heap.size w W) (hp : PtAt w u p) (hq : PtAt w v q) : Calls Try.prog 68 #[u, v] W (Still (.int .i64 (cmpP p q)) W) := by
  obtain ⟨A, n, c, rfl, h1, h2, _, h3⟩ := hp.later hb
  obtain ⟨B, m, d, rfl, g1, g2, _, g3⟩ := hq.later hb
  exact pcompare_any A B p q n m c d W h1 g1 (by omega) (by omega) h3 g3
set_option maxRecDepth 4000 in
theorem same_at {w W : World} {u v : Value} {p q : List Int × Int} (hb : Below w.heap.size w W) (hp : PtAt w u p) (hq : PtAt w v q) : Calls Try.prog 64 #[u, v] W (Still (.bool (samP p q)) W) := by
  obtain ⟨A, n, c, rfl, h1, h2, _, h3⟩ := hp.later hb
  obtain ⟨B, m, d, rfl, g1, g2, _, g3⟩ := hq.later hb
  exact psame_pts A B p q n m c d W h1 g1 (by omega) (by omega) h3 g3
set_option maxRecDepth 4000 in
theorem rsame_at {w W : World} {u v : Value} {p q : List Int × Int} (hb : Below w.heap.size w W) (hp : PtAt w u p) (hq : PtAt w v q) : Calls Try.prog 53 #[u, v] W (Still (.bool (samP p q)) W) := by
  obtain ⟨A, n, c, rfl, h1, h2, _, h3⟩ := hp.later hb
  obtain ⟨B, m, d, rfl, g1, g2, _, g3⟩ := hq.later hb
  exact prsame_pts A B p q n m c d W h1 g1 (by omega) (by omega) h3 g3
set_option maxRecDepth 4000 in
theorem cmpP_self (p : List Int × Int) : cmpP p p = 0 := (cmpP_zero p p).2 rfl
set_option maxRecDepth 4000 in
theorem samP_self (p : List Int × Int) : samP p p = true := decide_eq_true rfl

set_option maxRecDepth 4000 in
/-- Three variables of two cells. -/
theorem three_points {w : World} (a b c d e f : Value) (t : TypeId) : ∃ W0, ((w.alloc (.cells #[a, b] t)).alloc (.cells #[c, d] t)).alloc (.cells #[e, f] t) = W0 ∧ Below w.heap.size w W0 ∧ W0.heap.size = w.heap.size + 1 + 1 + 1 ∧
    ∀ W, Below W0.heap.size W0 W → (W.cell? ⟨w.heap.size, 0, none⟩ = some a ∧ W.cell? ⟨w.heap.size, 1, none⟩ = some b ∧ W.cell? ⟨w.heap.size + 1, 0, none⟩ = some c ∧ W.cell? ⟨w.heap.size + 1, 1, none⟩ = some d ∧ W.cell? ⟨w.heap.size + 1 + 1, 0, none⟩ = some e ∧ W.cell? ⟨w.heap.size + 1 + 1, 1, none⟩ = some f) := by
  refine ⟨_, rfl, (below_mono2 (Below.refl _ _) (Nat.le_refl _)).alloc (by simp; omega) _, by simp, fun W h => ?_⟩
  have e0 := three_new w (.cells #[a, b] t) (.cells #[c, d] t) (.cells #[e, f] t)
  have h1 := blk2 (keepBlk e0.1 h)
  have h2 := blk2 (keepBlk e0.2.1 h)
  have h3 := blk2 (keepBlk e0.2.2 h)
  exact ⟨h1.1, h1.2.1, h2.1, h2.2.1, h3.1, h3.2.1⟩
set_option maxRecDepth 4000 in
theorem row_three {w : World} (a0 b0 c0 : Option Addr) (a1 b1 c1 a2 b2 c2 : Nat) (a3 b3 c3 : Int) (t : TypeId) :
    PtRow (w.alloc (.cells #[.slice a0 a1 a2, .int .i64 a3, .slice b0 b1 b2, .int .i64 b3, .slice c0 c1 c2, .int .i64 c3] t)) w.heap.size [(a0, a1, a2, a3), (b0, b1, b2, b3), (c0, c1, c2, c3)] := fun j q hq => by
  have key : ∀ k v, #[Value.slice a0 a1 a2, .int .i64 a3, .slice b0 b1 b2, .int .i64 b3, .slice c0 c1 c2, .int .i64 c3][k]? = some v → (w.alloc (.cells #[.slice a0 a1 a2, .int .i64 a3, .slice b0 b1 b2, .int .i64 b3, .slice c0 c1 c2, .int .i64 c3] t)).cell? ⟨w.heap.size, k, none⟩ = some v := fun k v hk => by
    rw [World.cell?_alloc_at _ _ _ _ rfl]; exact hk
  match j, hq with
  | 0, hq => simp at hq; subst hq; exact ⟨key 0 _ rfl, key 1 _ rfl⟩
  | 1, hq => simp at hq; subst hq; exact ⟨key 2 _ rfl, key 3 _ rfl⟩
  | 2, hq => simp at hq; subst hq; exact ⟨key 4 _ rfl, key 5 _ rfl⟩
  | j + 3, hq => simp at hq

set_option maxRecDepth 4000 in
theorem row_any {w : World} (l : List (Option Addr × Nat × Nat × Int)) (t : TypeId) : PtRow (w.alloc (.cells (l.flatMap fun q => [Value.slice q.1 q.2.1 q.2.2.1, .int .i64 q.2.2.2]).toArray t)) w.heap.size l := fun j q hq => by
  have key : ∀ (l : List (Option Addr × Nat × Nat × Int)) (j : Nat) (q : Option Addr × Nat × Nat × Int), l[j]? = some q → (l.flatMap fun q => [Value.slice q.1 q.2.1 q.2.2.1, .int .i64 q.2.2.2])[j * 2]? = some (.slice q.1 q.2.1 q.2.2.1) ∧ (l.flatMap fun q => [Value.slice q.1 q.2.1 q.2.2.1, .int .i64 q.2.2.2])[j * 2 + 1]? = some (.int .i64 q.2.2.2) := by
    intro l
    induction l with
    | nil => intro j q h; simp at h
    | cons x r ih =>
      intro j q h
      match j, h with
      | 0, h => simp at h; subst h; exact ⟨rfl, rfl⟩
      | j + 1, h =>
        have h' : r[j]? = some q := by simpa using h
        have := ih j q h'
        rw [show (j + 1) * 2 = j * 2 + 1 + 1 by omega]
        exact this
  obtain ⟨h1, h2⟩ := key l j q hq
  constructor
  · rw [World.cell?_alloc_at _ _ _ _ rfl]; simpa using h1
  · rw [World.cell?_alloc_at _ _ _ _ rfl]; simpa using h2

end Go.Proofs.Ytdjajpookmmafaa

namespace Go.Proofs.Ytdjajpookmmafaa
open Go.RowKit
end Go.Proofs.Ytdjajpookmmafaa

namespace Go.Proofs.Ytdjajpookmmafaa
open Go.RowKit

/-- A selection: is there one, and its two points. -/
structure Sl where
  is : Bool
  a : List Int × Int
  f : List Int × Int
def samS (s t : Sl) : Bool := s.is == t.is && samP s.a t.a && samP s.f t.f
def chkS (n : NT) (s : Sl) : Int := if s.is = false then (if samP s.a ([], 0) = true ∧ samP s.f ([], 0) = true then 0 else 1) else if chkP n s.a = 0 then chkP n s.f else chkP n s.a
set_option maxRecDepth 4000 in
theorem blk5 {w : World} {g : Nat} {a b c d e : Value} {t : TypeId} (h : w.heap[g]? = some (.cells #[a, b, c, d, e] t (0, 0))) : w.cell? ⟨g, 0, none⟩ = some a ∧ w.cell? ⟨g, 1, none⟩ = some b ∧ w.cell? ⟨g, 2, none⟩ = some c ∧ w.cell? ⟨g, 3, none⟩ = some d ∧ w.cell? ⟨g, 4, none⟩ = some e := by
  refine ⟨?_, ?_, ?_, ?_, ?_⟩ <;> simp [World.cell?, h]
set_option maxRecDepth 4000 in
theorem PtAt.zero (w : World) : PtAt w (.agg #[.slice none 0 0, .int .i64 0]) ([], 0) := ⟨none, 0, 0, rfl, rfl, by omega, Nat.le_refl _, IL.nil _ _ _⟩

set_option maxRecDepth 4000 in
set_option maxHeartbeats 4000000 in
theorem samesel_any (w : World) (s t : Sl) (A B C D : Option Addr) (na nb nc nd ca cb cc cd : Nat) (hA : PtAt w (.agg #[.slice A na ca, .int .i64 s.a.2]) s.a) (hB : PtAt w (.agg #[.slice B nb cb, .int .i64 s.f.2]) s.f) (hC : PtAt w (.agg #[.slice C nc cc, .int .i64 t.a.2]) t.a) (hD : PtAt w (.agg #[.slice D nd cd, .int .i64 t.f.2]) t.f) :
    Calls Try.prog 54 #[.agg #[.bool s.is, .slice A na ca, .int .i64 s.a.2, .slice B nb cb, .int .i64 s.f.2], .agg #[.bool t.is, .slice C nc cc, .int .i64 t.a.2, .slice D nd cd, .int .i64 t.f.2]] w (Still (.bool (samS s t)) w) := by
  obtain ⟨si, sa, sf⟩ := s
  obtain ⟨ti, ta, tf⟩ := t
  simp only at hA hB hC hD ⊢
  obtain ⟨W0, hW⟩ : ∃ W0, (w.alloc (.cells #[.bool si, .slice A na ca, .int .i64 sa.2, .slice B nb cb, .int .i64 sf.2] 33)).alloc (.cells #[.bool ti, .slice C nc cc, .int .i64 ta.2, .slice D nd cd, .int .i64 tf.2] 33) = W0 := ⟨_, rfl⟩
  have hb0 : Below w.heap.size w W0 := hW ▸ below_mono2 (Below.refl _ _) (Nat.le_refl _)
  have e0 := pt_new w (Obj.cells #[Value.bool si, .slice A na ca, .int .i64 sa.2, .slice B nb cb, .int .i64 sf.2] 33) (Obj.cells #[Value.bool ti, .slice C nc cc, .int .i64 ta.2, .slice D nd cd, .int .i64 tf.2] 33)
  rw [hW] at e0
  have HK := hd (show ∀ W, Below W0.heap.size W0 W → (W.cell? ⟨w.heap.size, 0, none⟩ = some (.bool si) ∧ W.cell? ⟨w.heap.size, 1, none⟩ = some (.slice A na ca) ∧ W.cell? ⟨w.heap.size, 2, none⟩ = some (.int .i64 sa.2) ∧ W.cell? ⟨w.heap.size, 3, none⟩ = some (.slice B nb cb) ∧ W.cell? ⟨w.heap.size, 4, none⟩ = some (.int .i64 sf.2) ∧
      W.cell? ⟨w.heap.size + 1, 0, none⟩ = some (.bool ti) ∧ W.cell? ⟨w.heap.size + 1, 1, none⟩ = some (.slice C nc cc) ∧ W.cell? ⟨w.heap.size + 1, 2, none⟩ = some (.int .i64 ta.2) ∧ W.cell? ⟨w.heap.size + 1, 3, none⟩ = some (.slice D nd cd) ∧ W.cell? ⟨w.heap.size + 1, 4, none⟩ = some (.int .i64 tf.2)) from fun W h => by
    obtain ⟨h0, h1, h2, h3, h4⟩ := blk5 (keepBlk e0.1 h)
    obtain ⟨g0, g1, g2, g3, g4⟩ := blk5 (keepBlk e0.2 h)
    exact ⟨h0, h1, h2, h3, h4, g0, g1, g2, g3, g4⟩)
  obtain ⟨x0, x1, x2, x3, x4, y0, y1, y2, y3, y4⟩ := HK.out _ (Below.refl _ _)
  have HW := hd hW
  have HB0 := hd hb0
  obtain ⟨E1, hE1⟩ : ∃ E1, samP sa ta = E1 := ⟨_, rfl⟩
  obtain ⟨E2, hE2⟩ : ∃ E2, samP sf tf = E2 := ⟨_, rfl⟩
  have HC1 := hd (fun (W : World) (h : Below W0.heap.size W0 W) => hE1 ▸ same_at (w := W0) (W := W) h (hA.later hb0) (hC.later hb0))
  have HC2 := hd (fun (W : World) (h : Below W0.heap.size W0 W) => hE2 ▸ same_at (w := W0) (W := W) h (hB.later hb0) (hD.later hb0))
  have hF : samS ⟨si, sa, sf⟩ ⟨ti, ta, tf⟩ = (si == ti && E1 && E2) := by unfold samS; rw [hE1, hE2]
  rw [hF]
  clear hF hE1 hE2 hA hB hC hD hW hb0 e0
  by_cases hi : si = ti
  · subst hi
    have g1 : (si == si) = true := by simp
    cases E1 with
    | true =>
      go_enter Try.func54, Try.ntmps54
      go_wp2_with (first
        | (go_at_call 64; have _g := HB1; refine Calls.mono (HC2.out _ HB1.out) ?_; rintro e w2 ⟨rfl, b2⟩; have HB2 := hd (HB1.out.trans (b2.mono HB1.out.size)); clear b2)
        | (go_at_call 64; rw [HW.out]; refine Calls.mono (HC1.out _ (Below.refl _ _)) ?_; rintro e w1 ⟨rfl, b1⟩; have HB1 := hd b1; clear b1 x0 x1 x2 x3 x4 y0 y1 y2 y3 y4; obtain ⟨x0, x1, x2, x3, x4, y0, y1, y2, y3, y4⟩ := HK.out _ HB1.out))
      go_ret
      exact ⟨ret_bool (by simp), HB0.out.trans (HB2.out.mono HB0.out.size)⟩
    | false =>
      go_enter Try.func54, Try.ntmps54
      go_wp2_with (first
        | (go_at_call 64; have _g := HB1; refine Calls.mono (HC2.out _ HB1.out) ?_; rintro e w2 ⟨rfl, b2⟩; have HB2 := hd (HB1.out.trans (b2.mono HB1.out.size)); clear b2)
        | (go_at_call 64; rw [HW.out]; refine Calls.mono (HC1.out _ (Below.refl _ _)) ?_; rintro e w1 ⟨rfl, b1⟩; have HB1 := hd b1; clear b1 x0 x1 x2 x3 x4 y0 y1 y2 y3 y4; obtain ⟨x0, x1, x2, x3, x4, y0, y1, y2, y3, y4⟩ := HK.out _ HB1.out))
      go_ret
      exact ⟨ret_bool (by simp), HB0.out.trans (HB1.out.mono HB0.out.size)⟩
  · have g1 : (si == ti) = false := by simpa using hi
    clear hi
    go_enter Try.func54, Try.ntmps54
    go_wp2_with (first
      | (go_at_call 64; have _g := HB1; refine Calls.mono (HC2.out _ HB1.out) ?_; rintro e w2 ⟨rfl, b2⟩; have HB2 := hd (HB1.out.trans (b2.mono HB1.out.size)); clear b2)
      | (go_at_call 64; rw [HW.out]; refine Calls.mono (HC1.out _ (Below.refl _ _)) ?_; rintro e w1 ⟨rfl, b1⟩; have HB1 := hd b1; clear b1 x0 x1 x2 x3 x4 y0 y1 y2 y3 y4; obtain ⟨x0, x1, x2, x3, x4, y0, y1, y2, y3, y4⟩ := HK.out _ HB1.out))
    rw [HW.out]
    go_ret
    exact ⟨ret_bool (by simp [g1]), HB0.out⟩
set_option maxRecDepth 4000 in
set_option maxHeartbeats 4000000 in
theorem rsamesel_any (w : World) (s t : Sl) (A B C D : Option Addr) (na nb nc nd ca cb cc cd : Nat) (hA : PtAt w (.agg #[.slice A na ca, .int .i64 s.a.2]) s.a) (hB : PtAt w (.agg #[.slice B nb cb, .int .i64 s.f.2]) s.f) (hC : PtAt w (.agg #[.slice C nc cc, .int .i64 t.a.2]) t.a) (hD : PtAt w (.agg #[.slice D nd cd, .int .i64 t.f.2]) t.f) :
    Calls Try.prog 34 #[.agg #[.bool s.is, .slice A na ca, .int .i64 s.a.2, .slice B nb cb, .int .i64 s.f.2], .agg #[.bool t.is, .slice C nc cc, .int .i64 t.a.2, .slice D nd cd, .int .i64 t.f.2]] w (Still (.bool (samS s t)) w) := by
  obtain ⟨si, sa, sf⟩ := s
  obtain ⟨ti, ta, tf⟩ := t
  simp only at hA hB hC hD ⊢
  obtain ⟨W0, hW⟩ : ∃ W0, (w.alloc (.cells #[.bool si, .slice A na ca, .int .i64 sa.2, .slice B nb cb, .int .i64 sf.2] 33)).alloc (.cells #[.bool ti, .slice C nc cc, .int .i64 ta.2, .slice D nd cd, .int .i64 tf.2] 33) = W0 := ⟨_, rfl⟩
  have hb0 : Below w.heap.size w W0 := hW ▸ below_mono2 (Below.refl _ _) (Nat.le_refl _)
  have e0 := pt_new w (Obj.cells #[Value.bool si, .slice A na ca, .int .i64 sa.2, .slice B nb cb, .int .i64 sf.2] 33) (Obj.cells #[Value.bool ti, .slice C nc cc, .int .i64 ta.2, .slice D nd cd, .int .i64 tf.2] 33)
  rw [hW] at e0
  have HK := hd (show ∀ W, Below W0.heap.size W0 W → (W.cell? ⟨w.heap.size, 0, none⟩ = some (.bool si) ∧ W.cell? ⟨w.heap.size, 1, none⟩ = some (.slice A na ca) ∧ W.cell? ⟨w.heap.size, 2, none⟩ = some (.int .i64 sa.2) ∧ W.cell? ⟨w.heap.size, 3, none⟩ = some (.slice B nb cb) ∧ W.cell? ⟨w.heap.size, 4, none⟩ = some (.int .i64 sf.2) ∧
      W.cell? ⟨w.heap.size + 1, 0, none⟩ = some (.bool ti) ∧ W.cell? ⟨w.heap.size + 1, 1, none⟩ = some (.slice C nc cc) ∧ W.cell? ⟨w.heap.size + 1, 2, none⟩ = some (.int .i64 ta.2) ∧ W.cell? ⟨w.heap.size + 1, 3, none⟩ = some (.slice D nd cd) ∧ W.cell? ⟨w.heap.size + 1, 4, none⟩ = some (.int .i64 tf.2)) from fun W h => by
    obtain ⟨h0, h1, h2, h3, h4⟩ := blk5 (keepBlk e0.1 h)
    obtain ⟨g0, g1, g2, g3, g4⟩ := blk5 (keepBlk e0.2 h)
    exact ⟨h0, h1, h2, h3, h4, g0, g1, g2, g3, g4⟩)
  obtain ⟨x0, x1, x2, x3, x4, y0, y1, y2, y3, y4⟩ := HK.out _ (Below.refl _ _)
  have HW := hd hW
  have HB0 := hd hb0
  obtain ⟨E1, hE1⟩ : ∃ E1, samP sa ta = E1 := ⟨_, rfl⟩
  obtain ⟨E2, hE2⟩ : ∃ E2, samP sf tf = E2 := ⟨_, rfl⟩
  have HC1 := hd (fun (W : World) (h : Below W0.heap.size W0 W) => hE1 ▸ rsame_at (w := W0) (W := W) h (hA.later hb0) (hC.later hb0))
  have HC2 := hd (fun (W : World) (h : Below W0.heap.size W0 W) => hE2 ▸ rsame_at (w := W0) (W := W) h (hB.later hb0) (hD.later hb0))
  have hF : samS ⟨si, sa, sf⟩ ⟨ti, ta, tf⟩ = (si == ti && E1 && E2) := by unfold samS; rw [hE1, hE2]
  rw [hF]
  clear hF hE1 hE2 hA hB hC hD hW hb0 e0
  by_cases hi : si = ti
  · subst hi
    have g1 : (si == si) = true := by simp
    cases E1 with
    | true =>
      go_enter Try.func34, Try.ntmps34
      go_wp2_with (first
        | (go_at_call 53; have _g := HB1; refine Calls.mono (HC2.out _ HB1.out) ?_; rintro e w2 ⟨rfl, b2⟩; have HB2 := hd (HB1.out.trans (b2.mono HB1.out.size)); clear b2)
        | (go_at_call 53; rw [HW.out]; refine Calls.mono (HC1.out _ (Below.refl _ _)) ?_; rintro e w1 ⟨rfl, b1⟩; have HB1 := hd b1; clear b1 x0 x1 x2 x3 x4 y0 y1 y2 y3 y4; obtain ⟨x0, x1, x2, x3, x4, y0, y1, y2, y3, y4⟩ := HK.out _ HB1.out))
      go_ret
      exact ⟨ret_bool (by simp), HB0.out.trans (HB2.out.mono HB0.out.size)⟩
    | false =>
      go_enter Try.func34, Try.ntmps34
      go_wp2_with (first
        | (go_at_call 53; have _g := HB1; refine Calls.mono (HC2.out _ HB1.out) ?_; rintro e w2 ⟨rfl, b2⟩; have HB2 := hd (HB1.out.trans (b2.mono HB1.out.size)); clear b2)
        | (go_at_call 53; rw [HW.out]; refine Calls.mono (HC1.out _ (Below.refl _ _)) ?_; rintro e w1 ⟨rfl, b1⟩; have HB1 := hd b1; clear b1 x0 x1 x2 x3 x4 y0 y1 y2 y3 y4; obtain ⟨x0, x1, x2, x3, x4, y0, y1, y2, y3, y4⟩ := HK.out _ HB1.out))
      go_ret
      exact ⟨ret_bool (by simp), HB0.out.trans (HB1.out.mono HB0.out.size)⟩
  · have g1 : (si == ti) = false := by simpa using hi
    clear hi
    go_enter Try.func34, Try.ntmps34
    go_wp2_with (first
      | (go_at_call 53; have _g := HB1; refine Calls.mono (HC2.out _ HB1.out) ?_; rintro e w2 ⟨rfl, b2⟩; have HB2 := hd (HB1.out.trans (b2.mono HB1.out.size)); clear b2)
      | (go_at_call 53; rw [HW.out]; refine Calls.mono (HC1.out _ (Below.refl _ _)) ?_; rintro e w1 ⟨rfl, b1⟩; have HB1 := hd b1; clear b1 x0 x1 x2 x3 x4 y0 y1 y2 y3 y4; obtain ⟨x0, x1, x2, x3, x4, y0, y1, y2, y3, y4⟩ := HK.out _ HB1.out))
    rw [HW.out]
    go_ret
    exact ⟨ret_bool (by simp [g1]), HB0.out⟩

end Go.Proofs.Ytdjajpookmmafaa
