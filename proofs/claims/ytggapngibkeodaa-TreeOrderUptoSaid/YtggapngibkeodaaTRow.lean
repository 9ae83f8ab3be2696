/- A row of nodes that a call makes out of the Kids of others. -/
import Derived.Test.YtggapngibkeodaaTAt
import Derived.Test.YtggapngibkeodaaTTight
namespace Go.Proofs.Ytggapngibkeodaa
open Go.RowKit
open Go.WideShapes (add_plain)

/-- The cells of nodes, one behind the other. -/
def flatV (us : List Value) : List Value := us.flatMap fun u => u.cells.toList
theorem flatV_append (us vs : List Value) : flatV (us ++ vs) = flatV us ++ flatV vs := flat_append us vs
/-- Values that are the trees of a list. -/
structure Vals (d : Nat) (w : World) (B : Nat) (us : List Value) (ks : List NT) : Prop where
  len : us.length = ks.length
  trees : ∀ (j : Nat) (m : NT), ks[j]? = some m → ∃ u, us[j]? = some u ∧ NodeAt d w B u m
theorem Vals.nil (d : Nat) (w : World) (B : Nat) : Vals d w B [] [] := ⟨rfl, fun j m h => by simp at h⟩
theorem Vals.one {d : Nat} {w : World} {B : Nat} {u : Value} {m : NT} (h : NodeAt d w B u m) : Vals d w B [u] [m] := ⟨rfl, fun j x hx => by
  cases j with
  | zero =>
    simp only [List.getElem?_cons_zero, Option.some.injEq] at hx
    subst hx
    exact ⟨_, rfl, h⟩
  | succ j => simp at hx⟩
theorem Vals.append {d : Nat} {w : World} {B : Nat} {us vs : List Value} {ks ms : List NT} (h1 : Vals d w B us ks) (h2 : Vals d w B vs ms) : Vals d w B (us ++ vs) (ks ++ ms) :=
  ⟨by rw [List.length_append, List.length_append, h1.len, h2.len], fun j m hj => by
    rcases Nat.lt_or_ge j ks.length with hjk | hjk
    · rw [List.getElem?_append_left hjk] at hj
      obtain ⟨u, hu, ht⟩ := h1.trees j m hj
      exact ⟨u, by rw [List.getElem?_append_left (by rw [h1.len]; exact hjk)]; exact hu, ht⟩
    · rw [List.getElem?_append_right hjk] at hj
      obtain ⟨u, hu, ht⟩ := h2.trees _ m hj
      exact ⟨u, by rw [List.getElem?_append_right (by rw [h1.len]; exact hjk), h1.len]; exact hu, ht⟩⟩
theorem Vals.below {d : Nat} {w w' : World} {B : Nat} {us : List Value} {ks : List NT} (h : Vals d w B us ks) (hb : Below B w w') : Vals d w' B us ks := ⟨h.len, fun j m hj => by
  obtain ⟨u, h1, h2⟩ := h.trees j m hj; exact ⟨u, h1, h2.below hb⟩⟩
theorem Vals.more {d : Nat} {w : World} {B B' : Nat} {us : List Value} {ks : List NT} (h : Vals d w B us ks) (hb : B ≤ B') : Vals d w B' us ks := ⟨h.len, fun j m hj => by
  obtain ⟨u, h1, h2⟩ := h.trees j m hj; exact ⟨u, h1, h2.more hb⟩⟩
theorem Vals.deep {d d' : Nat} {w : World} {B : Nat} {us : List Value} {ks : List NT} (h : Vals d w B us ks) (hd : d ≤ d') : Vals d' w B us ks := ⟨h.len, fun j m hj => by
  obtain ⟨u, h1, h2⟩ := h.trees j m hj; exact ⟨u, h1, h2.deep hd⟩⟩
theorem Vals.form {d : Nat} {w : World} {B : Nat} {us : List Value} {ks : List NT} (h : Vals d w B us ks) : ∀ u ∈ us, ∃ lf PA np pc TA nt tc KA nk kc, u = .agg #[.bool lf, .slice PA np pc, .slice TA nt tc, .slice KA nk kc] := fun u hu => by
  obtain ⟨j, hj, rfl⟩ := List.mem_iff_getElem.1 hu
  obtain ⟨u', hu', ht⟩ := h.trees j _ (List.getElem?_eq_getElem (by rw [← h.len]; exact hj))
  rw [List.getElem?_eq_getElem hj] at hu'
  injection hu' with hu'
  rw [hu']
  exact ht.val
theorem Vals.flat {d : Nat} {w : World} {B : Nat} {us : List Value} {ks : List NT} (h : Vals d w B us ks) : (flatV us).length = ks.length * 4 ∧ ∀ c ∈ flatV us, c.oneCell' = true := by
  have key := h.form
  constructor
  · rw [← h.len]
    have : ∀ l : List Value, (∀ u ∈ l, u.cells.toList.length = 4) → (flatV l).length = l.length * 4 := by
      intro l
      induction l with
      | nil => intro _; rfl
      | cons x r ih => intro hx; show (flatV (x :: r)).length = _; rw [flatV, List.flatMap_cons, List.length_append, hx x (List.mem_cons_self ..), ← flatV, ih (fun u hu => hx u (List.mem_cons_of_mem _ hu)), List.length_cons]; omega
    exact this us fun u hu => by obtain ⟨_, _, _, _, _, _, _, _, _, _, rfl⟩ := key u hu; rfl
  · intro c hc
    obtain ⟨u, hu, hcu⟩ := List.mem_flatMap.1 hc
    obtain ⟨_, _, _, _, _, _, _, _, _, _, rfl⟩ := key u hu
    simp [Value.cells] at hcu
    rcases hcu with rfl | rfl | rfl | rfl <;> rfl
/-- The Kids in a slice, as values. -/
theorem Kids.vals {d : Nat} {w : World} {B : Nat} {A : Option Addr} {ks : List NT} (h : Kids d w B A ks) : ∃ us, Vals d w B us ks ∧ VL w B A (flatV us) := by
  have hx : ∀ j : Fin ks.length, ∃ u, ∃ b o, A = some ⟨b, o, none⟩ ∧ b < B ∧ NodeAt d w B u ks[j] ∧ Cells4 w b (o + j * 4) u := fun j => by
    obtain ⟨b, o, u, e, hb, hn, hc⟩ := h j ks[j] (List.getElem?_eq_getElem j.2)
    exact ⟨u, b, o, e, hb, hn, hc⟩
  obtain ⟨f, hf⟩ := Classical.axiomOfChoice hx
  have hv : Vals d w B (List.ofFn f) ks := ⟨by simp, fun j m hj => by
    have hl := (List.getElem?_eq_some_iff.1 hj).1
    obtain ⟨b, o, _, _, hn, _⟩ := hf ⟨j, hl⟩
    have e : ks[j] = m := (List.getElem?_eq_some_iff.1 hj).2
    exact ⟨f ⟨j, hl⟩, by rw [List.getElem?_eq_getElem (by simpa using hl), List.getElem_ofFn], by rw [← e]; exact hn⟩⟩
  refine ⟨_, hv, fun hne => ?_⟩
  have hlen := hv.flat.1
  have hpos : 0 < ks.length := by
    have : 0 < (flatV (List.ofFn f)).length := List.length_pos_iff.2 hne
    omega
  obtain ⟨b, o, e, hb, _, _⟩ := hf ⟨0, hpos⟩
  refine ⟨b, o, e, hb, fun q c hq => ?_⟩
  have hql : q < ks.length * 4 := by rw [← hlen]; exact (List.getElem?_eq_some_iff.1 hq).1
  have hj : q / 4 < ks.length := by omega
  obtain ⟨b', o', e', _, hn, c0, c1, c2, c3, eu, h0, h1, h2, h3⟩ := hf ⟨q / 4, hj⟩
  rw [e] at e'
  injection e' with e'
  injection e' with e1 e2
  subst e1 e2
  have h4 : ∀ x ∈ List.ofFn f, x.cells.size = 4 := fun x hx => by obtain ⟨_, _, _, _, _, _, _, _, _, _, rfl⟩ := hv.form x hx; rfl
  have hu : (List.ofFn f)[q / 4]? = some (f ⟨q / 4, hj⟩) := by rw [List.getElem?_eq_getElem (by simpa using hj), List.getElem_ofFn]
  have hc := fun i c hi => cells_at (List.ofFn f) (q / 4) _ c0 c1 c2 c3 h4 hu eu i c hi
  have hq' : (flatV (List.ofFn f))[q / 4 * 4 + q % 4]? = some c := by rw [show q / 4 * 4 + q % 4 = q by omega]; exact hq
  have ho : ∀ i, q % 4 = i → o + q = o + q / 4 * 4 + i := fun i hi => by omega
  match hm : q % 4, Nat.mod_lt q (show 0 < 4 by omega) with
  | 0, _ => rw [hm] at hq'; have := (hc 0 c0 rfl).symm.trans hq'; injection this with this; subst this; rw [ho 0 hm]; exact h0
  | 1, _ => rw [hm] at hq'; have := (hc 1 c1 rfl).symm.trans hq'; injection this with this; subst this; rw [ho 1 hm]; exact h1
  | 2, _ => rw [hm] at hq'; have := (hc 2 c2 rfl).symm.trans hq'; injection this with this; subst this; rw [ho 2 hm]; exact h2
  | 3, _ => rw [hm] at hq'; have := (hc 3 c3 rfl).symm.trans hq'; injection this with this; subst this; rw [ho 3 hm]; exact h3
/-- A row of the call's own that holds nodes. -/
theorem row_kids {w : World} {base d n c : Nat} {A : Option Addr} {us : List Value} {ks : List NT} (hown : w.ownsRow base 26 4 (.slice A n c) n (flatV us)) (hv : Vals d w w.heap.size us ks) : Kids d w w.heap.size A ks := fun k m hm => by
  obtain ⟨u, hu, ht⟩ := hv.trees k m hm
  obtain ⟨lf, PA, np, pc, TA, nt, tc, KA, nk, kc, e⟩ := hv.form u (List.mem_of_getElem? hu)
  have h4 : ∀ x ∈ us, x.cells.size = 4 := fun x hx => by obtain ⟨_, _, _, _, _, _, _, _, _, _, rfl⟩ := hv.form x hx; rfl
  obtain ⟨A', c', e', _, _, hfree⟩ := own_free hown
  injection e' with e1 _ _
  subst e1
  have hc := fun i c hi => hfree (k * 4 + i) c (cells_at us k u _ _ _ _ h4 hu e i c hi)
  obtain ⟨g, hg, _, hgl, _⟩ := hc 0 _ rfl
  subst hg
  have hc' : ∀ i c, [Value.bool lf, .slice PA np pc, .slice TA nt tc, .slice KA nk kc][i]? = some c → w.cell? ⟨g, 0 + k * 4 + i, none⟩ = some c := fun i c hi => by
    obtain ⟨g', e', _, _, h5, _⟩ := hc i c hi
    injection e' with e'
    injection e' with e'
    subst e'
    rw [Nat.zero_add]; exact h5
  exact ⟨g, 0, u, rfl, hgl, ht, _, _, _, _, e, hc' 0 _ rfl, hc' 1 _ rfl, hc' 2 _ rfl, hc' 3 _ rfl⟩
/-- The same node with another row of Kids. -/
theorem node_row {d n : Nat} {w : World} {lf : Bool} {ps : List Pr} {tx : List Int} {ks os : List NT} {PA : Option Addr} {pc : Nat} {TA : Option Addr} {tc : Nat} {A : Option Addr} {c kc : Nat} (hp : PL w w.heap.size PA ps) (ht : VL w w.heap.size TA (rv tx)) (hf : FitN ps tx.length ks.length pc tc kc) (hn : os.length = n) (hl : n ≤ 1759218604441) (hc : n ≤ c) (hk : Kids d w w.heap.size A os) :
    NodeAt (d + 1) w w.heap.size (.agg #[.bool lf, .slice PA ps.length pc, .slice TA tx.length tc, .slice A n c]) (.mk lf ps tx os) :=
  NodeAt.shut rfl rfl hn.symm hp ht ⟨hf.1, hf.2.1, hf.2.2.1, by rw [hn]; exact hl, hf.2.2.2.2.1, hf.2.2.2.2.2.1, by rw [hn]; exact hc⟩ hk
/-- A row that grows is not another block. -/
theorem apart_step {g s : Nat} {o o' : Option Nat} (h : o ≠ some g) (hg : g < s) (hat : o' = o ∨ ∃ q, o' = some q ∧ s ≤ q) : o' ≠ some g := by
  rcases hat with e | ⟨q, e, hq⟩
  · rw [e]; exact h
  · rw [e]; intro e2; injection e2 with e2; omega
theorem il_cell {w : World} {B b o k : Nat} {p : List Int} (h : IL w B (some ⟨b, o, none⟩) p) (hk : k < p.length) : b < B ∧ w.cell? ⟨b, o + k, none⟩ = some (.int .i64 (iAt p k)) := by
  obtain ⟨b', o', e, hb, hc⟩ := h.at_ hk
  injection e with e
  injection e with e1 e2
  subst e1 e2
  exact ⟨hb, hc⟩

/-- A list appended to nil. -/
theorem wpList_append_G0 {ts te : TypeId} {size by_ : Nat} (E : ElemG ts te size by_) (W : World) {ops : Array Oper} {rest : List Oper} {o : Oper} {a : Act} {Q : Exit → Act → World → Prop} (hgd : o.guard = none) (s x : Operand)
    (ho : o.op = .call { callee := .builtin .append, args := #[s, x], argTypes := #[ts, ts] })
    (b : Nat) (hs : a.eval s = .slice none 0 0) (A : Option Addr) (m c B : Nat) (l : List Value) (hx : a.eval x = .slice A m c) (hn : l.length = m * size) (hp : VL W B A l) (h1 : ∀ u ∈ l, u.oneCell' = true)
    (h63 : m ≤ maxLen) (hby : m * by_ ≤ 140737488355328) (hb : b ≤ W.heap.size)
    (hK : ∀ A' c' w', w'.ownsRow b te size (.slice A' m c') m l → Below W.heap.size W w' → ((Value.slice A' m c').ownBlock = none ∨ ∃ g, (Value.slice A' m c').ownBlock = some g ∧ W.heap.size ≤ g) → wpList Try.prog ops Q rest (a.put o.dst (.slice A' m c')) w') :
    wpList Try.prog ops Q (o :: rest) a W := by
  refine wpList_append_GX E W hgd s x ho b (.slice none 0 0) 0 [] hs (World.ownsRow_nil _ _ _ _) A m c B l hx hn hp h1 (by rw [Nat.zero_add]; exact h63) (by rw [Nat.zero_add]; exact hby) hb (fun A' c' w' h1 h2 h3 => ?_)
  rw [Nat.zero_add, List.nil_append] at h1
  rw [Nat.zero_add] at h3 ⊢
  exact hK A' c' w' h1 (grown_none h2) h3
/-- A list appended to a row of the call's own, in a region that draws. -/
theorem step_append_GX {ts te : TypeId} {size by_ : Nat} (E : ElemG ts te size by_) (W : World) {ops : Array Oper} {o : Oper} {a : Act} {K : Act → World → Prop} {Q : Exit → Act → World → Prop} {F : Prop} (hgd : o.guard = none) (s x : Operand)
    (ho : o.op = .call { callee := .builtin .append, args := #[s, x], argTypes := #[ts, ts] })
    (b : Nat) (v : Value) (n : Nat) (k : List Value) (hs : a.eval s = v) (hO : W.ownsRow b te size v n k) (A : Option Addr) (m c B : Nat) (l : List Value) (hx : a.eval x = .slice A m c) (hn : l.length = m * size) (hp : VL W B A l) (h1 : ∀ u ∈ l, u.oneCell' = true)
    (h63 : n + m ≤ maxLen) (hby : (n + m) * by_ ≤ 140737488355328) (hb : b ≤ W.heap.size)
    (hK : ∀ A' c' w', w'.ownsRow b te size (.slice A' (n + m) c') (n + m) (k ++ l) → W.grownBy w' v.ownBlock → ((Value.slice A' (n + m) c').ownBlock = v.ownBlock ∨ ∃ g, (Value.slice A' (n + m) c').ownBlock = some g ∧ W.heap.size ≤ g) → K (a.put o.dst (.slice A' (n + m) c')) w') :
    if Region.wanted o (yielded ops a.tmps) = true then Oper.wp Try.prog o a W K Q else F := by
  have hw : Region.wanted o (yielded ops a.tmps) = true := by simp [Region.wanted, hgd]
  rw [if_pos hw]
  obtain ⟨i0, z, hi, hz0, hz1, hz2, hz3⟩ := E.info
  have hsz := E.pos
  rcases Nat.eq_zero_or_pos m with hm | hm
  · subst hm
    have hl : l = [] := List.eq_nil_of_length_eq_zero (by simpa using hn)
    subst hl
    obtain ⟨A0, c0, rfl, _⟩ := own_free hO
    have hrun := run_append_zeroG (w := W) (ty := o.type) (A := A) (c := c) E.under hi hO
    unfold Oper.wp execOp
    simp only [ho, resolve, invoke, builtin, Sem.run_bind, Sem.run_pure, Result.andThen_ok, List.map_toArray, List.map_cons, List.map_nil, hs, hx, hrun]
    exact hK A0 c0 W (by simpa using hO) ⟨rfl, rfl, rfl, Nat.le_refl _, fun _ _ _ => rfl⟩ (.inl (by cases A0 <;> rfl))
  · have hl : 0 < l.length := by have := Nat.mul_pos hm hsz; omega
    obtain ⟨b', o', rfl, _, hc⟩ := hp (List.length_pos_iff.1 hl)
    refine wp_append_lies W s x ts ho b te i0 z size by_ E.under hi hz0 hz1 hz2 hz3 hsz v n k hs hO ⟨b', o', none⟩ m c l hx hn (fun j u hj => by rw [add_plain]; exact hc j u hj) h1 hm h63 hby hb W.heap.size rfl (fun g cap w' h1 h2 h3 _ => hK _ cap w' h1 h2 ?_)
    rcases h3 with e | e
    · exact .inl (by rw [e]; rfl)
    · exact .inr ⟨g, rfl, by omega⟩
theorem step_append_G0 {ts te : TypeId} {size by_ : Nat} (E : ElemG ts te size by_) (W : World) {ops : Array Oper} {o : Oper} {a : Act} {K : Act → World → Prop} {Q : Exit → Act → World → Prop} {F : Prop} (hgd : o.guard = none) (s x : Operand)
    (ho : o.op = .call { callee := .builtin .append, args := #[s, x], argTypes := #[ts, ts] })
    (b : Nat) (hs : a.eval s = .slice none 0 0) (A : Option Addr) (m c B : Nat) (l : List Value) (hx : a.eval x = .slice A m c) (hn : l.length = m * size) (hp : VL W B A l) (h1 : ∀ u ∈ l, u.oneCell' = true)
    (h63 : m ≤ maxLen) (hby : m * by_ ≤ 140737488355328) (hb : b ≤ W.heap.size)
    (hK : ∀ A' c' w', w'.ownsRow b te size (.slice A' m c') m l → Below W.heap.size W w' → ((Value.slice A' m c').ownBlock = none ∨ ∃ g, (Value.slice A' m c').ownBlock = some g ∧ W.heap.size ≤ g) → K (a.put o.dst (.slice A' m c')) w') :
    if Region.wanted o (yielded ops a.tmps) = true then Oper.wp Try.prog o a W K Q else F := by
  refine step_append_GX E W hgd s x ho b (.slice none 0 0) 0 [] hs (World.ownsRow_nil _ _ _ _) A m c B l hx hn hp h1 (by rw [Nat.zero_add]; exact h63) (by rw [Nat.zero_add]; exact hby) hb (fun A' c' w' h1 h2 h3 => ?_)
  rw [Nat.zero_add, List.nil_append] at h1
  rw [Nat.zero_add] at h3 ⊢
  exact hK A' c' w' h1 (grown_none h2) h3

end Go.Proofs.Ytggapngibkeodaa
