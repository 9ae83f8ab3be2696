/- What is written into rows of the call's own: numbers stay numbers, rows of slices stay as they are. -/
import Derived.Test.YtpjibfopfdbnjaaBackLaw
namespace Go.Proofs.Ytpjibfopfdbnjaa
open Go.RowKit
open Go.WideShapes (add_plain)

theorem OwnI.il {w : World} {b n c : Nat} {A : Option Addr} {l : List Int} (h : OwnI w b (.slice A n c) l) : IL w w.heap.size A l := by
  obtain ⟨A', c', e, _, _, h3⟩ := h.open_
  injection e with e
  subst e
  exact h3
theorem OwnR.rl {w : World} {b n c : Nat} {A : Option Addr} {L : List (List Int)} (h : OwnR w b (.slice A n c) L) : RL w w.heap.size A L := by
  obtain ⟨A', c', e, _, h3⟩ := h.open_
  injection e with e
  subst e
  exact h3
theorem OwnR.weaken {w : World} {b b' : Nat} {v : Value} {L : List (List Int)} (h : OwnR w b v L) (hb : b' ≤ b) : OwnR w b' v L := by
  obtain ⟨vs, h1, h2, h3⟩ := h
  refine ⟨vs, h1, ⟨h2.1, ?_⟩, fun k u hu => (h3 k u hu).weaken hb⟩
  rcases h2.2 with h4 | ⟨g, cap, cur, e2, hbg, rest⟩
  · exact .inl h4
  · exact .inr ⟨g, cap, cur, e2, by omega, rest⟩
theorem NewE.own {w w' : World} {r : List Int × Int} {e : Ending} (h : NewE w r e w') (l : List Int) (er : Int) (n : Nat) (hr : r = (l, er)) (hn : l.length = n) :
    ∃ A c, e = .returned (.tuple #[.slice A n c, .int .i64 er]) ∧ OwnI w' w.heap.size (.slice A n c) l ∧ Below w.heap.size w w' := by
  subst hr
  obtain ⟨v, he, ho, hb⟩ := h
  obtain ⟨A, c, rfl, _, _⟩ := ho.open_at n hn
  exact ⟨A, c, he, ho, hb⟩
theorem NewI.own {w w' : World} {l : List Int} {e : Ending} (h : NewI w l e w') (n : Nat) (hn : l.length = n) :
    ∃ A c, e = .returned (.slice A n c) ∧ OwnI w' w.heap.size (.slice A n c) l ∧ Below w.heap.size w w' := by
  obtain ⟨v, he, ho, hb⟩ := h
  obtain ⟨A, c, rfl, _, _⟩ := ho.open_at n hn
  exact ⟨A, c, he, ho, hb⟩
theorem NewR.own {w w' : World} {L : List (List Int)} {e : Ending} (h : NewR w L e w') (n : Nat) (hn : L.length = n) :
    ∃ A c, e = .returned (.slice A n c) ∧ OwnR w' w.heap.size (.slice A n c) L ∧ Below w.heap.size w w' := by
  subst hn
  obtain ⟨v, he, ho, hb⟩ := h
  obtain ⟨A, c, rfl, _, _⟩ := ho.open_
  exact ⟨A, c, he, ho, hb⟩

/-- The slice at A, of n cells, lies in a block from B on that holds numbers, whichever. -/
def WI (W : World) (B : Nat) (A : Option Addr) (n : Nat) : Prop :=
  0 < n → ∃ g cur, A = some ⟨g, 0, none⟩ ∧ B ≤ g ∧ W.heap[g]? = some (.cells cur 3 (0, 0)) ∧ ∀ j, j < n → ∃ x, cur[j]? = some (.int .i64 x)
theorem WI.of_own {w : World} {b n c B : Nat} {A : Option Addr} {l : List Int} (h : OwnI w b (.slice A n c) l) (hB : B ≤ b) : WI w B A n := by
  intro hn
  obtain ⟨A', c', e, _, _, h3⟩ := h
  injection e with e1 e2 e3
  subst e1 e2 e3
  rcases h3.2 with ⟨_, h0⟩ | ⟨g, cap, cur, e2, hbg, hg, _, _, hcs, htk⟩
  · omega
  · injection e2 with e2 _ _
    subst e2
    refine ⟨g, cur, rfl, by omega, hg, fun j hj => ⟨iAt l j, ?_⟩⟩
    have : (cur.toList.take (l.length * 1))[j]? = (l.map (Value.int .i64))[j]? := by rw [htk]
    rw [List.getElem?_take_of_lt (by omega)] at this
    rw [← Array.getElem?_toList, this]
    simp [iAt_eq l j hj, hj]
theorem WI.set {W : World} {B : Nat} {A : Option Addr} {n : Nat} (h : WI W B A n) (g j : Nat) (x : Int) : WI (W.setCell ⟨g, j, none⟩ (.int .i64 x)) B A n := by
  intro hn
  obtain ⟨g', cur, rfl, hB, hg, hc⟩ := h hn
  by_cases e : g' = g
  · subst e
    refine ⟨g', cur.setIfInBounds j (.int .i64 x), rfl, hB, heap_setCell_same W g' j cur _ _ hg, fun i hi => ?_⟩
    obtain ⟨y, hy⟩ := hc i hi
    rw [Array.getElem?_setIfInBounds]
    split
    · rename_i e2
      subst e2
      rw [if_pos (Array.getElem?_eq_some_iff.1 hy).1]
      exact ⟨x, rfl⟩
    · exact ⟨y, hy⟩
  · exact ⟨g', cur, rfl, hB, (heap_setCell_other W ⟨g, j, none⟩ g' _ e).trans hg, hc⟩
theorem WI.at_ {W : World} {B : Nat} {A : Option Addr} {n : Nat} (h : WI W B A n) {j : Nat} (hj : j < n) : ∃ g x, A = some ⟨g, 0, none⟩ ∧ B ≤ g ∧ (∃ cur, W.heap[g]? = some (.cells cur 3 (0, 0))) ∧ W.cell? ⟨g, j, none⟩ = some (.int .i64 x) ∧ W.frozen? ⟨g, j, none⟩ = false := by
  obtain ⟨g, cur, rfl, hB, hg, hc⟩ := h (by omega)
  obtain ⟨x, hx⟩ := hc j hj
  refine ⟨g, x, rfl, hB, ⟨cur, hg⟩, ?_, ?_⟩
  · rw [cell_of_row W g j cur _ (0, 0) hg]; exact hx
  · simp [World.frozen?, hg]

/-- The value v is a row, from B on, of the slices vs, each of numbers from B on. -/
def Rows_ (W : World) (B : Nat) (v : Value) (vs : List Value) : Prop :=
  W.ownsRow B 22 1 v vs.length vs ∧ ∀ (j : Nat) (u : Value), vs[j]? = some u → ∃ A n c, u = Value.slice A n c ∧ n ≤ 1000 ∧ WI W B A n
theorem Rows_.of_own {w : World} {b B : Nat} {v : Value} {L : List (List Int)} (h : OwnR w b v L) (hB : B ≤ b) (hL : ∀ k, k < L.length → (lAt L k).length ≤ 1000) : ∃ vs, vs.length = L.length ∧ Rows_ w B v vs := by
  obtain ⟨vs, h1, h2, h3⟩ := h.weaken hB
  refine ⟨vs, h1, by rw [h1]; exact h2, fun j u hu => ?_⟩
  obtain ⟨A, c, rfl, _, _⟩ := (h3 j u hu).open_
  exact ⟨A, _, c, rfl, hL j (by have := (List.getElem?_eq_some_iff.1 hu).1; omega), WI.of_own (h3 j _ hu) (Nat.le_refl _)⟩
theorem Rows_.set {W : World} {B : Nat} {v : Value} {vs : List Value} (h : Rows_ W B v vs) (g j : Nat) (x : Int) (hg : ∃ cur, W.heap[g]? = some (.cells cur 3 (0, 0))) : Rows_ (W.setCell ⟨g, j, none⟩ (.int .i64 x)) B v vs := by
  obtain ⟨h1, h2⟩ := h
  obtain ⟨cur, hg⟩ := hg
  refine ⟨⟨h1.1, ?_⟩, fun k u hu => ?_⟩
  · rcases h1.2 with h4 | ⟨g', cap, cur', e, hbg, hg', rest⟩
    · exact .inl h4
    · refine .inr ⟨g', cap, cur', e, hbg, ?_, rest⟩
      refine (heap_setCell_other W ⟨g, j, none⟩ g' _ (fun e2 => ?_)).trans hg'
      simp only at e2
      subst e2
      rw [hg] at hg'
      injection hg' with hg'
      injection hg' with _ h3
      exact absurd h3 (by decide)
  · obtain ⟨A, n, c, rfl, hn, hw⟩ := h2 k u hu
    exact ⟨A, n, c, rfl, hn, hw.set g j x⟩
theorem WI.grown {w w' : World} {B b' n m : Nat} {A : Option Addr} {v : Value} {xs : List Value} (h : WI w B A m) (hr : w.ownsRow b' 22 1 v n xs) (hg : w.grownBy w' v.ownBlock) : WI w' B A m := by
  intro hm
  obtain ⟨g, cur, rfl, hB, hgg, hc⟩ := h hm
  refine ⟨g, cur, rfl, hB, ?_, hc⟩
  rw [hg.block g (Array.getElem?_eq_some_iff.1 hgg).1 (fun e => ?_)]
  · exact hgg
  · rcases hr.2 with ⟨rfl, _⟩ | ⟨g', cap', cur', rfl, _, hg', _⟩
    · simp [Value.ownBlock] at e
    · simp only [Value.ownBlock, Option.some.injEq] at e
      subst e
      rw [hgg] at hg'
      injection hg' with hg'
      injection hg' with _ h3
      exact absurd h3 (by decide)
theorem WI.below {w w' : World} {B m : Nat} {A : Option Addr} (h : WI w B A m) (hb : Below w.heap.size w w') : WI w' B A m := by
  intro hm
  obtain ⟨g, cur, rfl, hB, hgg, hc⟩ := h hm
  exact ⟨g, cur, rfl, hB, (hb.block g (Array.getElem?_eq_some_iff.1 hgg).1).trans hgg, hc⟩
theorem Rows_.below {W W' : World} {B : Nat} {v : Value} {vs : List Value} (h : Rows_ W B v vs) (hb : Below W.heap.size W W') : Rows_ W' B v vs := by
  obtain ⟨h1, h2⟩ := h
  refine ⟨⟨h1.1, ?_⟩, fun k u hu => ?_⟩
  · rcases h1.2 with h4 | ⟨g', cap, cur', e, hbg, hg', rest⟩
    · exact .inl h4
    · exact .inr ⟨g', cap, cur', e, hbg, (hb.block g' (Array.getElem?_eq_some_iff.1 hg').1).trans hg', rest⟩
  · obtain ⟨A, n, c, rfl, hn, hw⟩ := h2 k u hu
    exact ⟨A, n, c, rfl, hn, hw.below hb⟩
theorem Rows_.open_ {W : World} {B : Nat} {v : Value} {vs : List Value} (h : Rows_ W B v vs) : ∃ A c, v = .slice A vs.length c ∧ (0 < vs.length → ∃ g, A = some ⟨g, 0, none⟩) := by
  obtain ⟨h1, h2⟩ := h
  rcases h1.2 with ⟨rfl, h0⟩ | ⟨g, cap, cur, rfl, hbg, hg, _⟩
  · exact ⟨none, 0, by rw [h0], fun h => by omega⟩
  · exact ⟨some ⟨g, 0, none⟩, cap, rfl, fun _ => ⟨g, rfl⟩⟩
theorem Rows_.open_at {W : World} {B : Nat} {v : Value} {vs : List Value} (h : Rows_ W B v vs) (n : Nat) (hn : vs.length = n) (h0 : 0 < n) : ∃ g c, v = .slice (some ⟨g, 0, none⟩) n c := by
  subst hn
  obtain ⟨A, c, rfl, hA⟩ := h.open_
  obtain ⟨g, rfl⟩ := hA h0
  exact ⟨g, c, rfl⟩
theorem Rows_.wi {W : World} {B : Nat} {v : Value} {vs : List Value} (h : Rows_ W B v vs) {j : Nat} {A : Option Addr} {m d : Nat} (hj : vs[j]? = some (.slice A m d)) : WI W B A m := by
  obtain ⟨A', m', d', e, _, hw⟩ := h.2 j _ hj
  injection e with e1 e2 e3
  subst e1 e2 e3
  exact hw
theorem Rows_.at_ {W : World} {B g n c : Nat} {vs : List Value} (h : Rows_ W B (.slice (some ⟨g, 0, none⟩) n c) vs) {j : Nat} (hj : j < vs.length) : ∃ A m d, W.cell? ⟨g, j, none⟩ = some (.slice A m d) ∧ m ≤ 1000 ∧ vs[j]? = some (.slice A m d) := by
  obtain ⟨h1, h2⟩ := h
  have hv : vs[j]? = some vs[j] := List.getElem?_eq_getElem hj
  have hc := h1.cells (g := g) rfl j _ hv
  rw [add_plain] at hc
  obtain ⟨A, m, d, e, hm, _⟩ := h2 j _ hv
  rw [e] at hc hv
  exact ⟨A, m, d, by simpa using hc, hm, hv⟩

/-- One slice of numbers appended to a row. -/
theorem wpList_append_W (W : World) {ops : Array Oper} {rest : List Oper} {o : Oper} {a : Act} {Q : Exit → Act → World → Prop} (hgd : o.guard = none) (s x : Operand)
    (ho : o.op = .call { callee := .builtin .append, args := #[s, x], argTypes := #[33, 33] })
    (B : Nat) (v : Value) (vs : List Value) (A : Option Addr) (m d : Nat) (hs : a.eval s = v) (hO : Rows_ W B v vs) (hy : WI W B A m) (hm : m ≤ 1000) (g : Nat) (hg : g = W.heap.size) (hx : a.eval x = .slice (some ⟨g, 0, none⟩) 1 1) (hlen : vs.length ≤ 5000) (hb : B ≤ W.heap.size)
    (hK : ∀ v' w', Rows_ w' B v' (vs ++ [.slice A m d]) → Grew B v W w' → wpList Try.prog ops Q rest (a.put o.dst v') w') :
    wpList Try.prog ops Q (o :: rest) a (W.alloc (.cells #[.slice A m d] 22)) := by
  subst hg
  obtain ⟨i0, hi, hz0, hz1, hz2⟩ := info_parts rowInfo
  have hA : Below W.heap.size W (W.alloc (.cells #[.slice A m d] 22)) := (Below.refl _ _).alloc (Nat.le_refl _) _
  have hOr := hO.1
  obtain ⟨h1, h2⟩ := hO.below hA
  have hyy := hy.below hA
  refine wpList_append_own _ hgd s x 33 ho B 22 i0 _ 1 24 Try.underlying33 hi hz0 hz1 hz2 rfl (by decide) v vs.length vs hs h1 ⟨W.heap.size, 0, none⟩ 1 1 [.slice A m d] hx rfl (cell_one_new _ _ _) (by simp [Value.oneCell'])
    (by unfold maxLen; omega) (by omega) (by simp; omega) (fun v' w' h4 h5 _ => hK v' w' ⟨by simpa using h4, fun k u hu => ?_⟩ ?_)
  · rw [List.getElem?_append] at hu
    split at hu
    · obtain ⟨A', n', c', rfl, hn', hw'⟩ := h2 k u hu
      exact ⟨A', n', c', rfl, hn', hw'.grown h1 h5⟩
    · have hk0 : k - vs.length = 0 := by
        have := (List.getElem?_eq_some_iff.1 hu).1
        simp at this; omega
      rw [hk0] at hu
      have hu : Value.slice A m d = u := by simpa using hu
      subst hu
      exact ⟨A, m, d, rfl, hm, hyy.grown h1 h5⟩
  · have hsz : (W.alloc (.cells #[.slice A m d] 22)).heap.size = W.heap.size + 1 := by simp
    refine ⟨by have := h5.size; omega, fun C w0 hC hCW hb0 => (hb0.alloc hCW _).grown h5 (by omega) (fun j hj => Nat.le_trans hC (hOr.lt j hj).1), fun p hp hne => ?_⟩
    exact (World.cell?_of_block (h5.block p.block (by omega) hne)).trans (World.cell?_alloc_lt _ _ p hp)

end Go.Proofs.Ytpjibfopfdbnjaa
