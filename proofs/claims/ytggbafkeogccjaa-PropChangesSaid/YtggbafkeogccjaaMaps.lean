/- A map of texts by texts in memory, told as a list of its entries in some order. -/
import Derived.Test.YtggbafkeogccjaaSame
import Derived.Maps.StringElems
namespace Go.Proofs.Ytggbafkeogccjaa
open Go.RowKit Go.Maps

theorem law9 : Keyed Try.prog 9 := string_keyed Try.underlying9
theorem zero9 (w : World) : (zeroValue 9).run Try.prog w = .ok (.string ByteArray.empty) w := by kernel_rfl
theorem run_makeMap_hint {P : Program} (t k e : TypeId) (kd : IntKind) (n : Int) (ht : P.underlying t = some (.map k e)) (w : World) :
    (Instr.makeMap t (some (.int kd n))).run P w = .ok (.map (some w.heap.size)) (w.alloc (.map #[] 0)) := by
  simp [Instr.makeMap, run_underlying ht]; rfl

abbrev kl (s : ByteArray) : Lit := .string s.data.toList
def Apart (l : List Pr) : Prop := l.Pairwise fun p q => p.1 ≠ q.1
/-- D has just the entries of l. -/
def MapIs (D : DataW Unit) (l : List Pr) : Prop :=
  (∀ k, Maps.has D (kl k) = (getF l k).isSome) ∧ (∀ k p z, getF l k = some p → D.atKey (kl k) z = .lit (.string p.2.data.toList)) ∧ Maps.size D = l.length ∧ Apart l
/-- Block b is a map of just the entries of l. -/
def OwnM (w : World) (b : Nat) (l : List Pr) : Prop := ∃ D : DataW Unit, w.ownsMap Try.prog 9 (plainElem Try.prog 9) b l.length D ∧ MapIs D l

theorem ownsMap_tight {H : Type} {P : Program} {k : TypeId} {R : Value → Option (DataW H × List MemPlace)} {w : World} {b n : Nat} {D : DataW H} (h : w.ownsMap P k R b n D) : w.ownsMap P k R b (Maps.size D) D := by
  obtain ⟨es, clock, hb, F, hs, rfl⟩ := h
  exact ⟨es, clock, hb, F, by simp [Maps.size, length_sorted], rfl⟩

theorem isKey_kl (k : ByteArray) : WideAt.IsKeyLit (kl k) := trivial

theorem kl_inj {a b : ByteArray} (h : kl a = kl b) : a = b := by
  injection h with h
  exact ByteArray.ext (Array.toList_inj.1 h)

theorem getF_eq (l : List Pr) (k : ByteArray) (p : Pr) (h : getF l k = some p) : p ∈ l ∧ p.1 = k := by
  unfold getF at h
  have h2 := List.find?_some h
  exact ⟨List.mem_of_find?_eq_some h, toList_inj (by simpa using h2)⟩
theorem getF_of_mem {l : List Pr} (hA : Apart l) {p : Pr} (hp : p ∈ l) : getF l p.1 = some p := by
  induction l with
  | nil => cases hp
  | cons q r ih =>
    obtain ⟨h1, h2⟩ := List.pairwise_cons.1 hA
    unfold getF
    rw [List.find?_cons]
    rcases List.mem_cons.1 hp with rfl | hr
    · simp
    · have hne : (q.1.toList == p.1.toList) = false := by
        rw [beq_eq_false_iff_ne]
        exact fun e => h1 p hr (toList_inj e)
      rw [hne]
      exact ih h2 hr
theorem getF_none {l : List Pr} {k : ByteArray} : getF l k = none ↔ ∀ p ∈ l, p.1 ≠ k := by
  unfold getF
  rw [List.find?_eq_none]
  constructor
  · intro h p hp e
    exact h p hp (by rw [e]; simp)
  · intro h p hp e
    exact h p hp (toList_inj (by simpa using e))

theorem OwnM.made (w : World) : OwnM (w.alloc (.map #[] 0)) w.heap.size [] :=
  ⟨.map [], World.ownsMap_made w Try.prog 9 _, fun _ => rfl, fun _ _ _ h => by simp [getF] at h, rfl, List.Pairwise.nil⟩
theorem OwnM.kept {w w' : World} {b : Nat} {l : List Pr} {row : Option Nat} (h : OwnM w b l) (hg : w.grownBy w' row) (hne : some b ≠ row) : OwnM w' b l := by
  obtain ⟨D, h1, h2⟩ := h
  exact ⟨D, h1.kept hg hne, h2⟩
theorem OwnM.alloc {w : World} {b : Nat} {l : List Pr} (h : OwnM w b l) (o : Obj) : OwnM (w.alloc o) b l := h.kept (World.grownBy_alloc w o none) (by simp)
theorem OwnM.lt {w : World} {b : Nat} {l : List Pr} (h : OwnM w b l) : b < w.heap.size := by
  obtain ⟨D, h1, _⟩ := h
  exact h1.lt

/-- A new entry. -/
theorem MapIs.put {D : DataW Unit} {l : List Pr} (h : MapIs D l) (hT : Tidy D) (k v : ByteArray) (hn : getF l k = none) : MapIs (D.put (kl k) (.lit (.string v.data.toList))) (l ++ [(k, v)]) := by
  obtain ⟨h1, h2, h3, h4⟩ := h
  have hg : ∀ q, getF (l ++ [(k, v)]) q = (getF l q).or (if k = q then some (k, v) else none) := by
    intro q
    unfold getF
    rw [List.find?_append]
    congr 1
    rw [List.find?_cons]
    by_cases e : k = q
    · subst e; simp
    · have : (k.toList == q.toList) = false := by rw [beq_eq_false_iff_ne]; exact fun e' => e (toList_inj e')
      simp [this, e]
  refine ⟨fun q => ?_, fun q p z hp => ?_, ?_, ?_⟩
  · by_cases e : q = k
    · subst e
      rw [has_put_same hT.isMap (isKey_kl q), hg, hn]; simp
    · rw [has_put_other (fun e' => e (kl_inj e')), h1, hg, if_neg (fun e' => e e'.symm)]; simp
  · rw [hg] at hp
    by_cases e : q = k
    · subst e
      rw [hn] at hp
      simp at hp
      rw [atKey_put_same hT.isMap (isKey_kl q), ← hp]
    · rw [if_neg (fun e' => e e'.symm)] at hp
      rw [atKey_put_other (fun e' => e (kl_inj e'))]
      exact h2 q p z (by simpa using hp)
  · rw [size_put hT, h1, hn, List.length_append, h3]; rfl
  · unfold Apart
    rw [List.pairwise_append]
    refine ⟨h4, List.pairwise_singleton _ _, fun p hp q hq => ?_⟩
    simp at hq
    subst hq
    exact getF_none.1 hn p hp

def dropK (l : List Pr) (k : ByteArray) : List Pr := l.filter fun p => decide (p.1 ≠ k)
theorem getF_drop (l : List Pr) (k q : ByteArray) : getF (dropK l k) q = if q = k then none else getF l q := by
  by_cases e : q = k
  · subst e
    rw [if_pos rfl, getF_none]
    intro p hp
    exact of_decide_eq_true (List.mem_filter.1 hp).2
  · rw [if_neg e]
    unfold dropK getF
    induction l with
    | nil => rfl
    | cons p r ih =>
      by_cases hk : p.1 = k
      · have hp : (p.1.toList == q.toList) = false := by rw [beq_eq_false_iff_ne]; exact fun e' => e (by rw [← toList_inj e', hk])
        rw [List.filter_cons_of_neg (by simp [hk]), List.find?_cons, hp]
        exact ih
      · rw [List.filter_cons_of_pos (by simp [hk]), List.find?_cons, List.find?_cons, ih]
theorem drop_size (l : List Pr) (hA : Apart l) (k : ByteArray) : (dropK l k).length + (if (getF l k).isSome then 1 else 0) = l.length := by
  induction l with
  | nil => simp [dropK, getF]
  | cons p r ih =>
    obtain ⟨h1, h2⟩ := List.pairwise_cons.1 hA
    have ih := ih h2
    unfold dropK getF at ih ⊢
    by_cases hk : p.1 = k
    · subst hk
      have hr : r.filter (fun q => decide (q.1 ≠ p.1)) = r := List.filter_eq_self.2 fun q hq => by simpa using fun e : q.1 = p.1 => h1 q hq e.symm
      rw [List.filter_cons_of_neg (by simp), List.find?_cons, hr]
      simp
    · have hp : (p.1.toList == k.toList) = false := by rw [beq_eq_false_iff_ne]; exact fun e' => hk (toList_inj e')
      rw [List.filter_cons_of_pos (by simp [hk]), List.find?_cons, hp]
      simp only [List.length_cons]
      omega

/-- An entry struck. -/
theorem MapIs.del {D : DataW Unit} {l : List Pr} (h : MapIs D l) (hT : Tidy D) (k : ByteArray) : MapIs (D.del (kl k)) (dropK l k) := by
  obtain ⟨h1, h2, h3, h4⟩ := h
  refine ⟨fun q => ?_, fun q p z hp => ?_, ?_, ?_⟩
  · rw [getF_drop]
    by_cases e : q = k
    · subst e; rw [has_del_same, if_pos rfl]; rfl
    · rw [has_del_other (fun e' => e (kl_inj e')), if_neg e]; exact h1 q
  · rw [getF_drop] at hp
    by_cases e : q = k
    · rw [if_pos e] at hp; cases hp
    · rw [if_neg e] at hp
      rw [atKey_del_other (fun e' => e (kl_inj e'))]
      exact h2 q p z hp
  · have := size_del (k := kl k) hT
    rw [h1, h3] at this
    have := drop_size l h4 k
    omega
  · exact h4.filter _

end Go.Proofs.Ytggbafkeogccjaa
