/- A row of properties that the call owns, before and after the library's sort has laid it anew. -/
import Derived.Test.YtggbafkeogccjaaOrder
import Derived.Shelf.GgSortFunc.InsertionK
namespace Go.Proofs.Ytggbafkeogccjaa
open Go.RowKit Go.Sort

def encP (p : Pr) : List Value := [.string p.1, .string p.2]
def flat (l : List Pr) : List Value := l.flatMap encP
instance : Inhabited Pr := ⟨noPr⟩
theorem flat_length (l : List Pr) : (flat l).length = l.length * 2 := by
  unfold flat
  induction l with
  | nil => rfl
  | cons p r ih => rw [List.flatMap_cons, List.length_append, ih, List.length_cons]; simp [encP]; omega
theorem flat_append (l m : List Pr) : flat (l ++ m) = flat l ++ flat m := by unfold flat; rw [List.flatMap_append]
theorem flat_get (l : List Pr) (k : Nat) (hk : k < l.length) : (flat l)[k * 2]? = some (.string (prAt l k).1) ∧ (flat l)[k * 2 + 1]? = some (.string (prAt l k).2) := by
  induction l generalizing k with
  | nil => simp at hk
  | cons p r ih =>
    cases k with
    | zero => exact ⟨rfl, rfl⟩
    | succ k =>
      have := ih k (by simpa using hk)
      have e1 : (flat (p :: r))[(k + 1) * 2]? = (flat r)[k * 2]? := by
        show (Value.string p.1 :: Value.string p.2 :: flat r)[(k + 1) * 2]? = _
        rw [show (k + 1) * 2 = k * 2 + 1 + 1 by omega]; rfl
      have e2 : (flat (p :: r))[(k + 1) * 2 + 1]? = (flat r)[k * 2 + 1]? := by
        show (Value.string p.1 :: Value.string p.2 :: flat r)[(k + 1) * 2 + 1]? = _
        rw [show (k + 1) * 2 + 1 = k * 2 + 1 + 1 + 1 by omega]; rfl
      have e3 : prAt (p :: r) (k + 1) = prAt r k := rfl
      rw [e1, e2, e3]
      exact this

theorem flatK_eq (l : List Pr) : flatK encP 2 l.toArray = (flat l).toArray := by
  apply Array.ext
  · simp [flat_length]
  · intro t h1 h2
    have ht : t < l.length * 2 := by simpa using h1
    have hk : t / 2 < l.length := by omega
    have hg := flat_get l (t / 2) hk
    rw [← getElem!_pos (flatK encP 2 l.toArray) t h1, get_flatK _ _ _ t (by simpa using ht)]
    have e : l.toArray[t / 2]! = prAt l (t / 2) := by
      rw [getElem!_pos l.toArray (t / 2) (by simpa using hk), prAt_eq l _ hk]; rfl
    rw [e]
    have h3 : (flat l)[t]? = some ((flat l).toArray[t]'h2) := by
      rw [List.getElem?_eq_getElem (by simpa [flat_length] using ht)]; rfl
    rcases Nat.mod_two_eq_zero_or_one t with h0 | h0
    · have : t = t / 2 * 2 := by omega
      rw [h0]
      rw [← this, h3] at hg
      exact (Option.some.inj hg.1).symm
    · have : t = t / 2 * 2 + 1 := by omega
      rw [h0]
      rw [← this, h3] at hg
      exact (Option.some.inj hg.2).symm

theorem holdsK_of_block {w : World} {g : Nat} {cur : Array Value} {e : TypeId} {l : List Pr} (hb : w.heap[g]? = some (.cells cur e (0, 0))) (ht : cur.toList.take (l.length * 2) = flat l) : HoldsK encP 2 w g 0 l.toArray := by
  unfold HoldsK
  rw [flatK_eq]
  intro j hj
  have hj' : j < (flat l).length := by simpa using hj
  refine ⟨?_, by simp [World.frozen?, hb]⟩
  have h1 : (cur.toList.take (l.length * 2))[j]? = (flat l)[j]? := by rw [ht]
  rw [List.getElem?_take_of_lt (by rwa [flat_length] at hj')] at h1
  simp only [World.cell?, hb, Nat.zero_add]
  simp only [Option.isSome_none, Bool.false_eq_true, if_false]
  rw [← Array.getElem?_toList, h1, List.getElem?_eq_getElem hj', getElem!_pos (flat l).toArray j hj]
  rfl

theorem heap_sortedK {w : World} {g n : Nat} {os : Array Obj} {cur : Array Value} {e : TypeId} {fr : Nat × Nat} (d : Array Pr) (hb : w.heap[g]? = some (.cells cur e fr)) :
    (sortWorldK encP 2 w g 0 n d os).heap[g]? = some (.cells (putCells id 0 (flatK encP 2 d) cur) e fr) := by
  have hg : g < w.heap.size := (Array.getElem?_eq_some_iff.1 hb).1
  unfold sortWorldK putRowK
  rw [heap_grow_old _ _ (by simpa [putRow, mapBlock, Sort.ahead] using hg)]
  simp [putRow, mapBlock, Sort.ahead, Array.getElem?_modify, hb, onCells]

theorem grownBy_sortedK {w : World} {g n : Nat} {os : Array Obj} (d : Array Pr) : w.grownBy (sortWorldK encP 2 w g 0 n d os) (some g) := by
  unfold sortWorldK putRowK
  refine ⟨rfl, rfl, rfl, by simp [grow, putRow, mapBlock, Sort.ahead], fun k hk hne => ?_⟩
  rw [heap_grow_old _ _ (by simpa [putRow, mapBlock, Sort.ahead] using hk)]
  have : g ≠ k := fun e => hne (by rw [e])
  simp [putRow, mapBlock, Sort.ahead, Array.getElem?_modify, this]

theorem take_putCellsK (cur : Array Value) (ts : List Value) (h : ts.length ≤ cur.size) : (putCells id 0 ts.toArray cur).toList.take ts.length = ts := by
  apply List.ext_getElem?
  intro j
  by_cases hj : j < ts.length
  · rw [List.getElem?_take_of_lt hj, Array.getElem?_toList]
    simp [putCells, hj, show j < cur.size by omega]
  · rw [List.getElem?_take_eq_none (by omega), List.getElem?_eq_none (by omega)]

/-- Behind the sort the same slice owns the sorted list. -/
theorem ownsRow_sortedK {w : World} {base g cap n : Nat} {e : TypeId} {os : Array Obj} {cur : Array Value} {ss ts : List Pr} (hl : ts.length = ss.length) (hbase : base ≤ g) (hb : w.heap[g]? = some (.cells cur e (0, 0)))
    (h1 : ss.length ≤ cap) (h2 : cap ≤ maxLen) (h3 : cur.size = cap * 2) :
    (sortWorldK encP 2 w g 0 n ts.toArray os).ownsRow base e 2 (.slice (some ⟨g, 0, none⟩) ss.length cap) ss.length (flat ts) :=
  ⟨by rw [flat_length, hl], .inr ⟨g, cap, _, rfl, hbase, heap_sortedK _ hb, h1, h2, by simp [putCells, h3], by
    rw [flatK_eq, ← hl, ← flat_length]; exact take_putCellsK cur _ (by rw [flat_length, h3]; omega)⟩⟩

/-- What is owned reads as a list. -/
theorem PL.of_own {w : World} {base cap : Nat} {A : Option Addr} {l : List Pr} (h : w.ownsRow base 36 2 (.slice A l.length cap) l.length (flat l)) : PL w w.heap.size A l := by
  intro hn
  have h0 : 0 < l.length := List.length_pos_iff.2 hn
  rcases h.2 with ⟨_, h1⟩ | ⟨g, cap', cur, hv, _, hb, hnc, hm, hsz, ht⟩
  · omega
  · cases hv
    refine ⟨g, 0, rfl, (Array.getElem?_eq_some_iff.1 hb).1, fun k hk => ?_⟩
    have hg := flat_get l k hk
    have key : ∀ j u, j < l.length * 2 → (flat l)[j]? = some u → w.cell? ⟨g, 0 + j, none⟩ = some u := by
      intro j u hj hu
      have h1 : (cur.toList.take (l.length * 2))[j]? = (flat l)[j]? := by rw [ht]
      rw [List.getElem?_take_of_lt hj, hu] at h1
      simp only [World.cell?, hb, Nat.zero_add, Option.isSome_none, Bool.false_eq_true, if_false]
      rw [← Array.getElem?_toList, h1]
    exact ⟨key _ _ (by omega) hg.1, key _ _ (by omega) hg.2⟩

end Go.Proofs.Ytggbafkeogccjaa
