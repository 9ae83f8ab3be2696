/- Which kind undoes which: a map literal, asked. -/
import Derived.Test.YtdjajpookmmafaaBAt
import Derived.Maps.OwnOps
namespace Go.Proofs.Ytdjajpookmmafaa
open Go.RowKit Go.Maps

theorem key_kind : Keyed Try.prog 3 := int_keyed Try.underlying3
set_option maxRecDepth 4000 in
theorem zero_kind (w : World) : (zeroValue 3).run Try.prog w = .ok (.int .i64 0) w := by kernel_rfl
set_option maxRecDepth 4000 in
/-- An entry of a map literal. -/
theorem wpList_insert_own {H : Type} {P : Program} (w : World) {ops : Array Oper} {rest : List Oper} {o : Oper} {a : Act} {Q : Exit → Act → World → Prop}
    (hg : o.guard = none) (m x v : Operand) (t : TypeId) (hop : o.op = Op.insert t m x v)
    (k e : TypeId) (K : Keyed P k) (ht : P.underlying t = some (.map k e)) (R : Value → Option (DataW H × List MemPlace)) (b n : Nat) (D : DataW H)
    (hm : a.eval m = .map (some b)) (hown : w.ownsMap P k R b n D) (hn : n < maxLen) (key val : Value) (kl : Lit) (hx : a.eval x = key) (hv : a.eval v = val) (hkey : keyOf P k key = some kl)
    (d : DataW H) (ps : List MemPlace) (hval : R val = some (d, ps))
    (hK : ∀ w', w'.ownsMap P k R b (n + 1) (D.put kl d) → w.grownBy w' (some b) → wpList P ops Q rest (a.put o.dst undef) w') :
    wpList P ops Q (o :: rest) a w := by
  refine wpList_plain hg fun K' hK' => ?_
  obtain ⟨w', hrun, r1, r2⟩ := hown.update K ht hn hkey hval
  unfold Oper.wp
  simp [execOp, hop, hm, hx, hv, hrun, Result.andThen]
  exact hK' _ _ (hK w' r1 r2)

/-- Block g holds the map D, with at most n entries; it was made since w. -/
def MapO (w : World) (n : Nat) (D : DataW Unit) (w' : World) : Prop := w'.ownsMap Try.prog 3 (plainElem Try.prog 3) w.heap.size n D ∧ Below w.heap.size w w'
set_option maxRecDepth 4000 in
theorem MapO.made (w : World) : MapO w 0 (.map []) (w.alloc (.map #[] 0)) := ⟨World.ownsMap_made w Try.prog 3 _, (Below.refl _ _).alloc (Nat.le_refl _) _⟩
set_option maxRecDepth 4000 in
theorem MapO.next {w w1 w2 : World} {n : Nat} {D D' : DataW Unit} (h : MapO w n D w1) (h2 : w2.ownsMap Try.prog 3 (plainElem Try.prog 3) w.heap.size (n + 1) D') (hg : w1.grownBy w2 (some w.heap.size)) : MapO w (n + 1) D' w2 :=
  ⟨h2, h.2.grown hg h.2.size (fun j hj => by cases hj; exact Nat.le_refl _)⟩
def nine : DataW Unit := ((((((((((DataW.map []).put (.int .i64 1) (.lit (.int .i64 2))).put (.int .i64 2) (.lit (.int .i64 1))).put (.int .i64 3) (.lit (.int .i64 4))).put (.int .i64 4) (.lit (.int .i64 3))).put (.int .i64 5) (.lit (.int .i64 5))).put (.int .i64 6) (.lit (.int .i64 6))).put (.int .i64 7) (.lit (.int .i64 8))).put (.int .i64 8) (.lit (.int .i64 7))).put (.int .i64 9) (.lit (.int .i64 9)))
set_option maxRecDepth 4000 in
theorem nine_at (k : Int) : nine.atKey (.int .i64 k) (.lit (.int .i64 0)) = .lit (.int .i64 (undoK k)) := by
  have no : ∀ a b : Int, a ≠ b → (Lit.int .i64 a) ≠ .int .i64 b := fun a b h e => by injection e with _ e; exact h e
  by_cases h1 : 1 ≤ k
  · by_cases h2 : k ≤ 9
    · rcases kinds h1 h2 with rfl | rfl | rfl | rfl | rfl | rfl | rfl | rfl | rfl <;> rfl
    · rw [(undoK_zero k).2 (by simp [kindB, decide_eq_false h2]), nine]
      iterate 9 rw [atKey_put_other (no _ _ (by omega))]
      rfl
  · rw [(undoK_zero k).2 (by simp [kindB, decide_eq_false h1]), nine]
    iterate 9 rw [atKey_put_other (no _ _ (by omega))]
    rfl
set_option maxRecDepth 4000 in
theorem wf_kind {k : Int} (h : In64 k) : (Lit.int .i64 k).wf = true := by
  obtain ⟨h1, h2⟩ := h
  show (decide (IntKind.i64.min ≤ k) && decide (k ≤ IntKind.i64.max)) = true
  rw [Bool.and_eq_true, decide_eq_true_iff, decide_eq_true_iff]
  exact ⟨h1, h2⟩

set_option maxRecDepth 4000 in
set_option maxHeartbeats 2000000 in
theorem undoing_any (k : Int) (hk : In64 k) (w : World) : Calls Try.prog 27 #[.int .i64 k] w (Still (.int .i64 (undoK k)) w) := by
  have HKK := hd (keyOf_int_mk (P := Try.prog) Try.underlying3 (wf_kind hk))
  have HO := hd (MapO.made w)
  have hm := fun W => run_makeMap (P := Try.prog) 83 W
  clear hk
  go_enter Try.func27, Try.ntmps27
  go_wp2_with (first
    | (refine wpList_insert_own _ rfl _ _ _ _ rfl 3 3 key_kind Try.underlying83 _ _ _ _ rfl HO.out.1 (by unfold maxLen; omega) _ _ _ rfl rfl (keyOf_int_mk Try.underlying3 (by decide)) _ [] (plainElem_int Try.underlying3 (by decide)) ?_; intro w9 ho9 hg9; have HO := hd (HO.out.next ho9 hg9); clear ho9 hg9)
    | (at_lookup; refine wpList_lookup_own_int _ rfl _ _ 83 rfl 3 3 .i64 key_kind Try.underlying83 Try.underlying3 (zero_kind _) _ _ _ rfl HO.out.1 _ _ rfl HKK.out ?_; intro c hat hwc))
  go_ret
  have he : c = undoK k := by
    have h2 := nine_at k
    have h3 : (DataW.lit (.int .i64 (undoK k)) : DataW Unit) = .lit (.int .i64 c) := h2.symm.trans hat
    injection h3 with h3
    injection h3 with _ h3
    exact h3.symm
  exact ⟨by rw [he]; rfl, HO.out.2⟩

end Go.Proofs.Ytdjajpookmmafaa
