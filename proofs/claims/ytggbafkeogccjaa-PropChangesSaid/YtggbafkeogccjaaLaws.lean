/- What a look-up, a deletion and len do to a map that is told as a list of its entries; has. -/
import Derived.Test.YtggbafkeogccjaaGather
namespace Go.Proofs.Ytggbafkeogccjaa
open Go.RowKit Go.WideMaps Go.Maps

theorem OwnM.below {w w' : World} {b : Nat} {l : List Pr} (h : OwnM w b l) (hb : Below w.heap.size w w') : OwnM w' b l :=
  h.kept (row := none) ⟨hb.os, hb.tape, hb.output, hb.size, fun i hi _ => hb.block i hi⟩ (by simp)

theorem wpList_lookup_M (w : World) {ops : Array Oper} {rest : List Oper} {o : Oper} {a : Act} {Q : Exit → Act → World → Prop} (hg : o.guard = none) (m x : Operand) (hop : o.op = Op.lookup 42 m x true)
    (b : Nat) (l : List Pr) (hm : a.eval m = .map (some b)) (hown : OwnM w b l) (s : ByteArray) (hx : a.eval x = .string s) (hs : s.size ≤ maxLen)
    (hK : wpList Try.prog ops Q rest (a.put o.dst (.tuple #[.string (getV l s), .bool (getB l s)])) w) : wpList Try.prog ops Q (o :: rest) a w := by
  obtain ⟨D, h1, h2⟩ := hown
  refine wpList_lookup_own_ok w hg m x 42 hop 9 9 law9 Try.underlying42 (plainElem Try.prog 9) (zero9 w) (.lit (.string [])) [] (plainElem_string Try.underlying9 (by decide)) b _ D hm h1 (.string s) (kl s) hx (keyOf_string_mk Try.underlying9 hs) (fun v ps hv => ?_)
  obtain ⟨c, rfl, hc, _⟩ := plainElem_string_inv Try.underlying9 hv
  have hc := congrArg Prod.fst hc
  have e1 : Maps.has D (kl s) = getB l s := h2.1 s
  have e2 : c = getV l s := by
    unfold getV
    cases hf : getF l s with
    | none =>
      rw [atKey_of_not_has (by rw [h2.1 s, hf]; rfl)] at hc
      simp only [DataW.lit.injEq, Lit.string.injEq] at hc
      exact ByteArray.ext (Array.toList_inj.1 hc.symm)
    | some p =>
      rw [h2.2.1 s p _ hf] at hc
      simp only [DataW.lit.injEq, Lit.string.injEq] at hc
      exact ByteArray.ext (Array.toList_inj.1 hc.symm)
  rw [e1, e2]
  exact hK

theorem wpList_delete_M (w : World) {ops : Array Oper} {rest : List Oper} {o : Oper} {a : Act} {Q : Exit → Act → World → Prop} (hg : o.guard = none) (m x : Operand)
    (hop : o.op = Op.call { callee := Callee.builtin Builtin.delete, args := #[m, x], argTypes := #[42, 9] })
    (b : Nat) (l : List Pr) (hm : a.eval m = .map (some b)) (hown : OwnM w b l) (s : ByteArray) (hx : a.eval x = .string s) (hs : s.size ≤ maxLen)
    (hK : ∀ w', OwnM w' b (dropK l s) → w.grownBy w' (some b) → wpList Try.prog ops Q rest (a.put o.dst (.tuple #[])) w') : wpList Try.prog ops Q (o :: rest) a w := by
  obtain ⟨D, h1, h2⟩ := hown
  refine wpList_delete_own w hg m x 42 9 hop 9 law9 Try.underlying42 (plainElem Try.prog 9) b _ D hm h1 (.string s) (kl s) hx (keyOf_string_mk Try.underlying9 hs) (fun w' h3 h4 => hK w' ?_ h4.grown)
  have hP := h2.del (h1.tidy law9) s
  exact ⟨_, by have := ownsMap_tight h3; rwa [hP.2.2.1] at this, hP⟩

theorem wpList_len_M (w : World) {ops : Array Oper} {rest : List Oper} {o : Oper} {a : Act} {Q : Exit → Act → World → Prop} (hg : o.guard = none) (m : Operand)
    (hop : o.op = Op.call { callee := Callee.builtin Builtin.len, args := #[m], argTypes := #[42] })
    (b : Nat) (l : List Pr) (hm : a.eval m = .map (some b)) (hown : OwnM w b l)
    (hK : wpList Try.prog ops Q rest (a.put o.dst (.int .i64 (l.length : Int))) w) : wpList Try.prog ops Q (o :: rest) a w := by
  obtain ⟨D, h1, h2⟩ := hown
  refine wpList_len_own w hg m 42 hop 9 9 Try.underlying42 (plainElem Try.prog 9) b _ D hm h1 ?_
  rw [h2.2.2.1]
  exact hK

theorem wpList_put_M (w : World) {ops : Array Oper} {rest : List Oper} {o : Oper} {a : Act} {Q : Exit → Act → World → Prop} (hg : o.guard = none) (m x v : Operand) (hop : o.op = Op.mapUpdate 42 m x v)
    (b : Nat) (l : List Pr) (hm : a.eval m = .map (some b)) (hown : OwnM w b l) (hl : l.length < maxLen) (s t : ByteArray) (hx : a.eval x = .string s) (hv : a.eval v = .string t) (hs : s.size ≤ maxLen) (ht : t.size ≤ maxLen) (hn : getF l s = none)
    (hK : ∀ w', OwnM w' b (l ++ [(s, t)]) → w.grownBy w' (some b) → wpList Try.prog ops Q rest (a.put o.dst undef) w') : wpList Try.prog ops Q (o :: rest) a w := by
  obtain ⟨D, h1, h2⟩ := hown
  exact wpList_mapUpdate_own w hg m x v 42 hop 9 9 law9 Try.underlying42 (plainElem Try.prog 9) b _ D hm h1 hl (.string s) (.string t) (kl s) hx hv (keyOf_string_mk Try.underlying9 hs) _ [] (plainElem_string Try.underlying9 ht)
    (fun w' h3 h4 => hK w' (OwnM.put h2 (h1.tidy law9) hn rfl h3) h4)

def hasB (l : List Pr) (p : Pr) : Bool := l.any (samePr p)
theorem hasB_iff (l : List Pr) (p : Pr) : hasB l p = true ↔ p ∈ l := by
  unfold hasB
  rw [List.any_eq_true]
  constructor
  · rintro ⟨q, hq, h⟩
    rw [(samePr_iff p q).1 h]; exact hq
  · exact fun h => ⟨p, h, (samePr_iff p p).2 rfl⟩
theorem hasB_eq (l : List Pr) (hA : Apart l) (k v : ByteArray) : hasB l (k, v) = (getB l k && (getV l k).toList == v.toList) := by
  rw [Bool.eq_iff_iff, hasB_iff]
  unfold getB getV
  cases hf : getF l k with
  | none =>
    rw [getF_none] at hf
    simp only [Option.isSome_none, Bool.false_and, Bool.false_eq_true, iff_false]
    exact fun h => hf (k, v) h rfl
  | some p =>
    obtain ⟨h1, h2⟩ := getF_eq l k p hf
    simp only [Option.isSome_some, Bool.true_and, Option.getD_some]
    rw [beq_iff_eq]
    constructor
    · intro h
      have := getF_of_mem hA h
      rw [hf] at this
      cases this
      rfl
    · intro h
      obtain ⟨p1, p2⟩ := p
      cases h2
      rw [← toList_inj h]
      exact h1

set_option maxHeartbeats 1000000 in
theorem has_any (b : Nat) (l : List Pr) (k v : ByteArray) (w : World) (hM : OwnM w b l) (hA : Apart l) (hk : k.size ≤ 100) :
    Calls Try.prog 28 #[.map (some b), .agg #[.string k, .string v]] w fun e w' => e = .returned (.bool (hasB l (k, v))) ∧ Below w.heap.size w w' := by
  have HE := hd (hasB_eq l hA k v)
  have hk2 : Hid (k.size ≤ maxLen) := hd (by unfold maxLen; omega)
  clear hA
  cases hg : getB l k
  · have HG := hd hg
    go_enter Try.func28, Try.ntmps28
    go_wp2_with (first | (at_lookup; refine wpList_lookup_M _ rfl _ _ rfl b l rfl (hM.alloc _) k rfl hk2.out ?_))
    go_ret
    exact ⟨ret_bool (by rw [HE.out, HG.out]; rfl), (Below.refl _ _).alloc (Nat.le_refl _) _⟩
  · have HG := hd hg
    go_enter Try.func28, Try.ntmps28
    go_wp2_with (first | (at_lookup; refine wpList_lookup_M _ rfl _ _ rfl b l rfl (hM.alloc _) k rfl hk2.out ?_))
    go_ret
    exact ⟨ret_bool (by rw [HE.out, HG.out]; rfl), (Below.refl _ _).alloc (Nat.le_refl _) _⟩

end Go.Proofs.Ytggbafkeogccjaa
