/- hasKid, Get, and the document's Get. splice: a copy of a node with other Kids in the place of some. change: a closure is handed down to the node at a path; what it makes goes back up. Put: the closure, and the call. Add: the closure, and the call. Cut: the closure, and the call. -/
import Derived.Test.YtdjajpookmmafaaTBase
import Derived.Test.YtdjajpookmmafaaIBase
import Derived.IntWalk
import Derived.Shelf.Abstract
import Derived.StillTailTactics
namespace Go.Proofs.Ytdjajpookmmafaa
open Go.RowKit
/-- A new tree, and an error's number. -/
def NewN (r : NT × Int) (w : World) (e : Ending) (w' : World) : Prop :=
  ∃ v d, e = .returned (.tuple #[v, .int .i64 r.2]) ∧ TreeP (fun b => w.heap.size ≤ b ∧ b < w'.heap.size) d w' v r.1 ∧ Below w.heap.size w w'
set_option maxRecDepth 4000 in
theorem newN_ret {r : NT × Int} {n : NT} {e : Int} {w w' : World} {v : Value} {d : Nat} (h : r = (n, e)) (ht : TreeP (fun b => w.heap.size ≤ b ∧ b < w'.heap.size) d w' v n) (hb : Below w.heap.size w w') : NewN r w (.returned (.tuple #[v, .int .i64 e])) w' := by
  subst h; exact ⟨v, d, rfl, ht, hb⟩

/-- How far down the path: the node there, in the call's own variable. -/
structure GetLoop (w : World) (d : Nat) (n : NT) (p : List Int) (k : Nat) (lf : Bool) (PA : Option Addr) (np pc : Nat) (TA : Option Addr) (nt tc : Nat) (KA : Option Addr) (nk kc : Nat) (m : NT) (wr : World) : Prop where
  below : Below w.heap.size w wr
  res : wr.heap[w.heap.size + 1]? = some (.cells #[.bool false, .slice none 0 0, .slice none 0 0, .slice none 0 0] 27 (0, 0))
  var : wr.heap[w.heap.size]? = some (.cells #[.bool lf, .slice PA np pc, .slice TA nt tc, .slice KA nk kc] 27 (0, 0))
  at_ : getO n (p.take k) = some m
  node : NodeAt d wr w.heap.size (.agg #[.bool lf, .slice PA np pc, .slice TA nt tc, .slice KA nk kc]) m

set_option maxRecDepth 4000 in
theorem two_boxes (w : World) (a b c d : Value) (t : TypeId) (a' b' c' d' : Value) (t' : TypeId) :
    ((w.alloc (.cells #[a, b, c, d] t)).alloc (.cells #[a', b', c', d'] t')).heap[w.heap.size]? = some (.cells #[a, b, c, d] t (0, 0)) ∧ ((w.alloc (.cells #[a, b, c, d] t)).alloc (.cells #[a', b', c', d'] t')).heap[w.heap.size + 1]? = some (.cells #[a', b', c', d'] t' (0, 0)) := by
  refine ⟨?_, ?_⟩
  · rw [Below.heap_alloc _ _ _ (by simp)]; exact heap_alloc_new _ _
  · rw [← sz1 (w := w) (A := .cells #[a, b, c, d] t)]; exact heap_alloc_new _ _
set_option maxRecDepth 4000 in
theorem get_start {w : World} {d : Nat} {n : NT} {p : List Int} {lf : Bool} {PA : Option Addr} {np pc : Nat} {TA : Option Addr} {nt tc : Nat} {KA : Option Addr} {nk kc : Nat} (hn : NodeAt d w w.heap.size (.agg #[.bool lf, .slice PA np pc, .slice TA nt tc, .slice KA nk kc]) n) :
    GetLoop w d n p 0 lf PA np pc TA nt tc KA nk kc n ((w.alloc (.cells #[.bool lf, .slice PA np pc, .slice TA nt tc, .slice KA nk kc] 27)).alloc (.cells #[.bool false, .slice none 0 0, .slice none 0 0, .slice none 0 0] 27)) := by
  have hb := below_mono2 (w := w) (w' := w) (o := (.cells #[.bool lf, .slice PA np pc, .slice TA nt tc, .slice KA nk kc] 27)) (o' := (.cells #[.bool false, .slice none 0 0, .slice none 0 0, .slice none 0 0] 27)) (Below.refl _ _) (Nat.le_refl w.heap.size)
  obtain ⟨h1, h2⟩ := two_boxes w (.bool lf) (.slice PA np pc) (.slice TA nt tc) (.slice KA nk kc) 27 (.bool false) (.slice none 0 0) (.slice none 0 0) (.slice none 0 0) 27
  exact ⟨hb, h2, h1, rfl, hn.below hb⟩
set_option maxRecDepth 4000 in
theorem get_step {w wr w2 : World} {d : Nat} {n m m2 : NT} {p : List Int} {k : Nat} {lf : Bool} {PA : Option Addr} {np pc : Nat} {TA : Option Addr} {nt tc : Nat} {KA : Option Addr} {nk kc : Nat} {lf2 : Bool} {PA2 : Option Addr} {np2 pc2 : Nat} {TA2 : Option Addr} {nt2 tc2 : Nat} {KA2 : Option Addr} {nk2 kc2 : Nat}
    (h : GetLoop w d n p k lf PA np pc TA nt tc KA nk kc m wr) (hb : Below wr.heap.size wr w2) (hm : getO n (p.take (k + 1)) = some m2) (hn : NodeAt d w2 w.heap.size (.agg #[.bool lf2, .slice PA2 np2 pc2, .slice TA2 nt2 tc2, .slice KA2 nk2 kc2]) m2) :
    GetLoop w d n p (k + 1) lf2 PA2 np2 pc2 TA2 nt2 tc2 KA2 nk2 kc2 m2 ((((w2.setCell ⟨w.heap.size, 0, none⟩ (.bool lf2)).setCell ⟨w.heap.size, 1, none⟩ (.slice PA2 np2 pc2)).setCell ⟨w.heap.size, 2, none⟩ (.slice TA2 nt2 tc2)).setCell ⟨w.heap.size, 3, none⟩ (.slice KA2 nk2 kc2)) := by
  have hs := h.below.size
  have hb2 : Below w.heap.size w w2 := h.below.trans (hb.mono hs)
  have hbx : Below w.heap.size w ((((w2.setCell ⟨w.heap.size, 0, none⟩ (.bool lf2)).setCell ⟨w.heap.size, 1, none⟩ (.slice PA2 np2 pc2)).setCell ⟨w.heap.size, 2, none⟩ (.slice TA2 nt2 tc2)).setCell ⟨w.heap.size, 3, none⟩ (.slice KA2 nk2 kc2)) := (((hb2.setCell (Nat.le_refl _) _).setCell (Nat.le_refl _) _).setCell (Nat.le_refl _) _).setCell (Nat.le_refl _) _
  have hb2x : Below w.heap.size w2 ((((w2.setCell ⟨w.heap.size, 0, none⟩ (.bool lf2)).setCell ⟨w.heap.size, 1, none⟩ (.slice PA2 np2 pc2)).setCell ⟨w.heap.size, 2, none⟩ (.slice TA2 nt2 tc2)).setCell ⟨w.heap.size, 3, none⟩ (.slice KA2 nk2 kc2)) := ((((Below.refl w.heap.size w2).setCell (Nat.le_refl _) _).setCell (Nat.le_refl _) _).setCell (Nat.le_refl _) _).setCell (Nat.le_refl _) _
  refine ⟨hbx, ?_, set4_block ((hb.block _ (lt_of_block h.var)).trans h.var), hm, hn.below hb2x⟩
  iterate 4 rw [Below.heap_setCell _ _ _ _ (by show w.heap.size + 1 ≠ w.heap.size; omega)]
  exact (hb.block _ (lt_of_block h.res)).trans h.res

end Go.Proofs.Ytdjajpookmmafaa

namespace Go.Proofs.Ytdjajpookmmafaa
open Go.RowKit
open Go.WideShapes (add_plain)

/-- A slice's beginning, and its rest. -/
theorem takeN_run (A : Option Addr) (n c k : Nat) (hk : k ≤ c) : ∀ W : World, (Instr.slice 25 (.slice A n c) none (some (.int .i64 (k : Int))) none).run Try.prog W = .ok (.slice A k c) W := fun W => by
  have he : Try.prog.elem 25 = 27 := by kernel_rfl
  have hs : ∀ W, (sizeOf 27).run Try.prog W = .ok 4 W := fun _ => by kernel_rfl
  rw [run_slice_h W 25 A n c (by rw [he]; exact Try.underlying25) .i64 _ (by omega) (by omega), he, hs]
  have e : (A.map fun x => x.add 0) = A := by
    cases A
    · rfl
    · simp [Addr.add]
  simp [Result.andThen, sliced, e]
set_option maxRecDepth 4000 in
theorem Kids.drop {d : Nat} {w : World} {B : Nat} {A : Option Addr} {ks : List NT} (h : Kids d w B A ks) (k c : Nat) (hc : ks.length ≤ c) : Kids d w B (if c = k then A else A.map (·.add (k * 4))) (ks.drop k) := fun j m hm => by
  rw [List.getElem?_drop] at hm
  have hl := (List.getElem?_eq_some_iff.1 hm).1
  obtain ⟨b, o, u, rfl, hb, hn, c0, c1, c2, c3, e, h0, h1, h2, h3⟩ := h _ m hm
  rw [if_neg (by omega)]
  have e1 : o + k * 4 + j * 4 = o + (k + j) * 4 := by omega
  exact ⟨b, o + k * 4, u, by simp [add_plain], hb, hn, c0, c1, c2, c3, e, by rw [e1]; exact h0, by rw [e1]; exact h1, by rw [e1]; exact h2, by rw [e1]; exact h3⟩
set_option maxRecDepth 4000 in
theorem cutN_run (A : Option Addr) (n c k : Nat) (hk : k ≤ n) (hc : n ≤ c) : ∃ D : Option Addr, (∀ (d : Nat) (w : World) (B : Nat) (ks : List NT), Kids d w B A ks → ks.length = n → Kids d w B D (ks.drop k)) ∧
    (∀ W : World, (Instr.slice 25 (.slice A n c) (some (.int .i64 (k : Int))) none none).run Try.prog W = .ok (.slice D (n - k) (c - k)) W) := by
  refine ⟨if c = k then A else A.map (·.add (k * 4)), fun d w B ks h hx => h.drop k c (by omega), fun W => ?_⟩
  have he : Try.prog.elem 25 = 27 := by kernel_rfl
  have hs : ∀ W, (sizeOf 27).run Try.prog W = .ok 4 W := fun _ => by kernel_rfl
  rw [run_slice_l W 25 A n c (by rw [he]; exact Try.underlying25) .i64 _ (by omega) (by omega), he, hs]
  simp [Result.andThen, sliced]

set_option maxRecDepth 4000 in
/-- A list appended to a row of the call's own, and where the new one lies. -/
theorem wpList_append_GX {ts te : TypeId} {size by_ : Nat} (E : ElemG ts te size by_) (W : World) {ops : Array Oper} {rest : List Oper} {o : Oper} {a : Act} {Q : Exit → Act → World → Prop} (hgd : o.guard = none) (s x : Operand)
    (ho : o.op = .call { callee := .builtin .append, args := #[s, x], argTypes := #[ts, ts] })
    (b : Nat) (v : Value) (n : Nat) (k : List Value) (hs : a.eval s = v) (hO : W.ownsRow b te size v n k) (A : Option Addr) (m c B : Nat) (l : List Value) (hx : a.eval x = .slice A m c) (hn : l.length = m * size) (hp : VL W B A l) (h1 : ∀ u ∈ l, u.oneCell' = true)
    (h63 : n + m ≤ maxLen) (hby : (n + m) * by_ ≤ 140737488355328) (hb : b ≤ W.heap.size)
    (hK : ∀ A' c' w', w'.ownsRow b te size (.slice A' (n + m) c') (n + m) (k ++ l) → W.grownBy w' v.ownBlock → ((Value.slice A' (n + m) c').ownBlock = v.ownBlock ∨ ∃ g, (Value.slice A' (n + m) c').ownBlock = some g ∧ W.heap.size ≤ g) → wpList Try.prog ops Q rest (a.put o.dst (.slice A' (n + m) c')) w') :
    wpList Try.prog ops Q (o :: rest) a W := by
  obtain ⟨i0, z, hi, hz0, hz1, hz2, hz3⟩ := E.info
  have hsz := E.pos
  rcases Nat.eq_zero_or_pos m with hm | hm
  · subst hm
    have hl : l = [] := List.eq_nil_of_length_eq_zero (by simpa using hn)
    subst hl
    obtain ⟨A0, c0, rfl, _⟩ := own_free hO
    refine wpList_plain hgd fun K hK2 => ?_
    have hrun := run_append_zeroG (w := W) (ty := o.type) (A := A) (c := c) E.under hi hO
    unfold Oper.wp execOp
    simp only [ho, resolve, invoke, builtin, Sem.run_bind, Sem.run_pure, Result.andThen_ok, List.map_toArray, List.map_cons, List.map_nil, hs, hx, hrun]
    exact hK2 _ _ (hK A0 c0 W (by simpa using hO) ⟨rfl, rfl, rfl, Nat.le_refl _, fun _ _ _ => rfl⟩ (.inl (by cases A0 <;> rfl)))
  · have hl : 0 < l.length := by have := Nat.mul_pos hm hsz; omega
    obtain ⟨b', o', rfl, _, hc⟩ := hp (List.length_pos_iff.1 hl)
    refine wpList_plain hgd fun K hK2 => ?_
    refine wp_append_lies W s x ts ho b te i0 z size by_ E.under hi hz0 hz1 hz2 hz3 hsz v n k hs hO ⟨b', o', none⟩ m c l hx hn (fun j u hj => by rw [add_plain]; exact hc j u hj) h1 hm h63 hby hb W.heap.size rfl (fun g cap w' h1 h2 h3 _ => hK2 _ _ (hK _ cap w' h1 h2 ?_))
    rcases h3 with e | e
    · exact .inl (by rw [e]; rfl)
    · exact .inr ⟨g, rfl, by omega⟩

/-- Other nodes, in a slice: their trees in blocks that meet Q. -/
structure Others (Q : Nat → Prop) (d : Nat) (w : World) (OA : Option Addr) (us : List Value) (os : List NT) : Prop where
  len : us.length = os.length
  cells : VL w w.heap.size OA (us.flatMap fun u => u.cells.toList)
  trees : ∀ (j : Nat) (m : NT), os[j]? = some m → ∃ u, us[j]? = some u ∧ TreeP Q d w u m
set_option maxRecDepth 4000 in
theorem Others.flat {Q : Nat → Prop} {d : Nat} {w : World} {OA : Option Addr} {us : List Value} {os : List NT} (h : Others Q d w OA us os) : (us.flatMap fun u => u.cells.toList).length = os.length * 4 ∧ ∀ c ∈ us.flatMap fun u => u.cells.toList, c.oneCell' = true := by
  have key : ∀ u ∈ us, ∃ lf PA np pc TA nt tc KA nk kc, u = .agg #[.bool lf, .slice PA np pc, .slice TA nt tc, .slice KA nk kc] := fun u hu => by
    obtain ⟨j, hj, rfl⟩ := List.mem_iff_getElem.1 hu
    obtain ⟨u', hu', ht⟩ := h.trees j _ (List.getElem?_eq_getElem (by rw [← h.len]; exact hj))
    rw [List.getElem?_eq_getElem hj] at hu'
    injection hu' with hu'
    rw [hu']
    cases d with
    | zero => exact ht.elim
    | succ d => obtain ⟨PA, pc, TA, tc, KA, kc, e, _⟩ := ht; exact ⟨_, _, _, _, _, _, _, _, _, _, e⟩
  constructor
  · rw [← h.len]
    have : ∀ l : List Value, (∀ u ∈ l, u.cells.toList.length = 4) → (l.flatMap fun u => u.cells.toList).length = l.length * 4 := by
      intro l
      induction l with
      | nil => intro _; rfl
      | cons x r ih => intro hx; rw [List.flatMap_cons, List.length_append, hx x (List.mem_cons_self ..), ih (fun u hu => hx u (List.mem_cons_of_mem _ hu)), List.length_cons]; omega
    exact this us fun u hu => by obtain ⟨_, _, _, _, _, _, _, _, _, _, rfl⟩ := key u hu; rfl
  · intro c hc
    obtain ⟨u, hu, hcu⟩ := List.mem_flatMap.1 hc
    obtain ⟨_, _, _, _, _, _, _, _, _, _, rfl⟩ := key u hu
    simp [Value.cells] at hcu
    rcases hcu with rfl | rfl | rfl | rfl <;> rfl
set_option maxRecDepth 4000 in
theorem Others.nil (Q : Nat → Prop) (d : Nat) (w : World) (OA : Option Addr) : Others Q d w OA [] [] := ⟨rfl, VL.nil _ _ _, fun j m h => by simp at h⟩
set_option maxRecDepth 4000 in
theorem Others.keep {Q : Nat → Prop} {d : Nat} {w w' : World} {OA : Option Addr} {us : List Value} {os : List NT} (h : Others Q d w OA us os) (hQ : ∀ b, Q b → b < w.heap.size) (hb : Below w.heap.size w w') : Others Q d w' OA us os :=
  ⟨h.len, h.cells.later hb, fun j m hm => by
    obtain ⟨u, h1, h2⟩ := h.trees j m hm
    exact ⟨u, h1, h2.keep (fun _ h => h) (fun p hp => ⟨hb.cell (hQ _ hp), hb.frozen (hQ _ hp)⟩)⟩⟩

/-- What splice makes. -/
def Spliced (Q : Nat → Prop) (d : Nat) (n : NT) (w : World) (e : Ending) (w' : World) : Prop :=
  ∃ v, e = .returned v ∧ TreeP (fun b => (Q b ∨ w.heap.size ≤ b) ∧ b < w'.heap.size) d w' v n ∧ Below w.heap.size w w'

set_option maxRecDepth 4000 in
/-- The row that splice makes for the Kids. -/
theorem build_made {P : Nat → Prop} {w4 : World} {base d cap : Nat} {lf : Bool} {ps : List Pr} {tx : List Int} {PA : Option Addr} {pc : Nat} {TA : Option Addr} {tc : Nat} {cs : Array Value} (hbase : base ≤ w4.heap.size) (hup : ∀ b, base ≤ b → P b)
    (hp : VP (fun b => P b ∧ b < w4.heap.size) w4 PA (pv ps)) (ht : VP (fun b => P b ∧ b < w4.heap.size) w4 TA (rv tx)) (hcs : cs.size = cap * 4) (hcap : cap ≤ maxLen) :
    Build P w4 base d lf ps tx w4.heap.size PA pc TA tc (.slice (some ⟨w4.heap.size + 1, 0, none⟩) 0 cap) 0 [] [] ((w4.alloc (.cells #[.bool lf, .slice PA ps.length pc, .slice TA tx.length tc, .slice (some ⟨w4.heap.size + 1, 0, none⟩) 0 cap] 27)).alloc (.cells cs 27)) := by
  obtain ⟨w5, hw5⟩ : ∃ w5, w5 = w4.alloc (.cells #[.bool lf, .slice PA ps.length pc, .slice TA tx.length tc, .slice (some ⟨w4.heap.size + 1, 0, none⟩) 0 cap] 27) := ⟨_, rfl⟩
  have e5 : w5.heap.size = w4.heap.size + 1 := by rw [hw5]; simp
  obtain ⟨w6, hw6⟩ : ∃ w6, w6 = w5.alloc (.cells cs 27) := ⟨_, rfl⟩
  have e6 : w6.heap.size = w4.heap.size + 2 := by rw [hw6]; simp; omega
  have b5 : Below w4.heap.size w4 w5 := hw5 ▸ (Below.refl _ _).alloc (Nat.le_refl _) _
  have b6 : Below w4.heap.size w4 w6 := hw6 ▸ b5.alloc (by omega) _
  have hrow : w6.ownsRow base 27 4 (.slice (some ⟨w4.heap.size + 1, 0, none⟩) 0 cap) 0 [] := by
    have := World.ownsRow_made (base := base) (e := 27) (size := 4) w5 cs cap (by omega) hcap hcs
    rw [e5, ← hw6] at this
    exact this
  have h5 : w6.heap[w4.heap.size]? = some (.cells #[.bool lf, .slice PA ps.length pc, .slice TA tx.length tc, .slice (some ⟨w4.heap.size + 1, 0, none⟩) 0 cap] 27 (0, 0)) := by
    rw [hw6, Below.heap_alloc _ _ _ (by omega), hw5]; exact heap_alloc_new _ _
  rw [← hw5, ← hw6]
  refine ⟨b6.mono hbase, hbase, hbase, hup, h5, hrow, rfl, rfl, by simp [Value.ownBlock], ?_, ?_, fun j m hm => by simp at hm⟩
  · exact hp.keep (fun b hb => ⟨hb.1, by omega, by omega, by simp [Value.ownBlock]; omega⟩) (fun p hp => ⟨b6.cell hp.2, b6.frozen hp.2⟩)
  · exact ht.keep (fun b hb => ⟨hb.1, by omega, by omega, by simp [Value.ownBlock]; omega⟩) (fun p hp => ⟨b6.cell hp.2, b6.frozen hp.2⟩)

end Go.Proofs.Ytdjajpookmmafaa

namespace Go.Proofs.Ytdjajpookmmafaa
open Go.RowKit
open Go.WideShapes (add_plain)

/-- The rest of a path. -/
theorem IL.tail {w : World} {B : Nat} {A : Option Addr} {i : Int} {r : List Int} (h : IL w B A (i :: r)) (c : Nat) (hc : r.length + 1 ≤ c) : IL w B (if c = 1 then A else A.map (·.add (1 * 1))) r := fun hn => by
  have h0 : 0 < r.length := List.length_pos_iff.2 hn
  obtain ⟨b, o, rfl, hb, hcell⟩ := h (by simp)
  rw [if_neg (by omega)]
  refine ⟨b, o + 1, by simp [add_plain], hb, fun k hk => ?_⟩
  have := hcell (k + 1) (by simp; omega)
  rw [show o + 1 + k = o + (k + 1) by omega, this]
  rfl
set_option maxRecDepth 4000 in
theorem tailI_run (A : Option Addr) (k c : Nat) (hc : k + 1 ≤ c) : ∃ D : Option Addr, (∀ (w : World) (B : Nat) (i : Int) (r : List Int), IL w B A (i :: r) → r.length = k → IL w B D r) ∧ (∀ g, (∀ a, A = some a → a.block ≠ g) → ∀ a, D = some a → a.block ≠ g) ∧
    (∀ W : World, (Instr.slice 22 (.slice A (k + 1) c) (some (.int .i64 1)) none none).run Try.prog W = .ok (.slice D k (c - 1)) W) := by
  refine ⟨if c = 1 then A else A.map (·.add (1 * 1)), fun w B i r h hx => h.tail c (by omega), fun g h a ha => ?_, fun W => ?_⟩
  · cases A with
    | none => split at ha <;> cases ha
    | some a0 =>
      have h0 := h a0 rfl
      split at ha
      · injection ha with ha; rw [← ha]; exact h0
      · simp only [Option.map_some, Option.some.injEq] at ha
        rw [← ha]; exact h0
  have he : Try.prog.elem 22 = 3 := by kernel_rfl
  have hs : ∀ W, (sizeOf 3).run Try.prog W = .ok 1 W := fun _ => by kernel_rfl
  rw [run_slice_l W 22 A (k + 1) c (by rw [he]; exact Try.underlying22) .i64 _ (by omega) (by omega), he, hs]
  simp [Result.andThen, sliced]

set_option maxRecDepth 4000 in
theorem il_apart {w : World} {B g : Nat} {A : Option Addr} {p : List Int} (h : IL w B A p) (hg : B ≤ g) : p ≠ [] → ∀ a, A = some a → a.block ≠ g := fun hn a ha => by
  obtain ⟨b, o, e, hb, _⟩ := h hn
  rw [ha] at e
  injection e with e
  subst e
  show b ≠ g
  omega
/-- What block g holds: what it held, or a new tree. -/
def LeftAt (g : Nat) : Option NT → World → World → Prop
  | none, w, w' => w'.heap[g]? = w.heap[g]?
  | some t, w, w' => ∃ u0 u1 u2 u3 d, w'.heap[g]? = some (.cells #[u0, u1, u2, u3] 27 (0, 0)) ∧ TreeP (fun b => w.heap.size ≤ b ∧ b < w'.heap.size) d w' (.agg #[u0, u1, u2, u3]) t
set_option maxRecDepth 4000 in
theorem LeftAt.move {g : Nat} {s : Option NT} {w0 w w' w'' : World} (h : LeftAt g s w w') (hs : w0.heap.size ≤ w.heap.size) (hs' : w'.heap.size ≤ w''.heap.size) (h0 : w.heap[g]? = w0.heap[g]?) (hg : w''.heap[g]? = w'.heap[g]?) (hb : ∀ b, w.heap.size ≤ b → b < w'.heap.size → w''.heap[b]? = w'.heap[b]?) : LeftAt g s w0 w'' := by
  cases s with
  | none => exact hg.trans (Eq.trans h h0)
  | some t =>
    obtain ⟨u0, u1, u2, u3, d, h1, h2⟩ := h
    exact ⟨u0, u1, u2, u3, d, hg.trans h1, h2.keep (fun b hb => by omega) (fun p hp => ⟨World.cell?_of_block (hb _ hp.1 hp.2), World.frozen?_of_block (hb _ hp.1 hp.2)⟩)⟩
/-- A new tree and an error's number; nothing else has changed but block g. -/
def NewO (g : Nat) (r : NT × Int) (s : Option NT) (w : World) (e : Ending) (w' : World) : Prop :=
  ∃ v d, e = .returned (.tuple #[v, .int .i64 r.2]) ∧ TreeP (fun b => w.heap.size ≤ b ∧ b < w'.heap.size) d w' v r.1 ∧ Off g w w' ∧ LeftAt g s w w'
set_option maxRecDepth 4000 in
theorem newO_ret {g : Nat} {r : NT × Int} {s : Option NT} {n : NT} {e : Int} {w w' : World} {v : Value} {d : Nat} (h : r = (n, e)) (ht : TreeP (fun b => w.heap.size ≤ b ∧ b < w'.heap.size) d w' v n) (ho : Off g w w') (hl : LeftAt g s w w') : NewO g r s w (.returned (.tuple #[v, .int .i64 e])) w' := by
  subst h; exact ⟨v, d, rfl, ht, ho, hl⟩
set_option maxRecDepth 4000 in
theorem TreeP.block_keep {lo hi : Nat} {w w' : World} {d : Nat} {v : Value} {n : NT} {Q : Nat → Prop} (h : TreeP (fun b => lo ≤ b ∧ b < hi) d w v n) (hQ : ∀ b, lo ≤ b → b < hi → Q b) (hb : ∀ b, lo ≤ b → b < hi → w'.heap[b]? = w.heap[b]?) : TreeP Q d w' v n :=
  h.keep (fun b hb => hQ b hb.1 hb.2) (fun _ hp => ⟨World.cell?_of_block (hb _ hp.1 hp.2), World.frozen?_of_block (hb _ hp.1 hp.2)⟩)
set_option maxRecDepth 4000 in
theorem set4_other {w : World} {g k : Nat} {a b c d : Value} (h : k ≠ g) : ((((w.setCell ⟨g, 0, none⟩ a).setCell ⟨g, 1, none⟩ b).setCell ⟨g, 2, none⟩ c).setCell ⟨g, 3, none⟩ d).heap[k]? = w.heap[k]? := by
  iterate 4 rw [Below.heap_setCell _ _ _ _ (by simpa using h)]
set_option maxRecDepth 4000 in
theorem set4_size {w : World} {g : Nat} {a b c d : Value} : ((((w.setCell ⟨g, 0, none⟩ a).setCell ⟨g, 1, none⟩ b).setCell ⟨g, 2, none⟩ c).setCell ⟨g, 3, none⟩ d).heap.size = w.heap.size := by simp
set_option maxRecDepth 4000 in
theorem Off.set4 {g k : Nat} {w0 w : World} {a b c d : Value} (h : Off g w0 w) (hk : w0.heap.size ≤ k ∨ k = g) : Off g w0 ((((w.setCell ⟨k, 0, none⟩ a).setCell ⟨k, 1, none⟩ b).setCell ⟨k, 2, none⟩ c).setCell ⟨k, 3, none⟩ d) :=
  ⟨h.os, h.tape, h.output, by rw [set4_size]; exact h.size, fun j hj hg => by rw [set4_other (by omega)]; exact h.block j hj hg⟩
set_option maxRecDepth 4000 in
theorem Below.set4 {B k : Nat} {w0 w : World} {a b c d : Value} (h : Below B w0 w) (hk : B ≤ k) : Below B w0 ((((w.setCell ⟨k, 0, none⟩ a).setCell ⟨k, 1, none⟩ b).setCell ⟨k, 2, none⟩ c).setCell ⟨k, 3, none⟩ d) :=
  (((h.setCell (by show B ≤ k; exact hk) _).setCell (by show B ≤ k; exact hk) _).setCell (by show B ≤ k; exact hk) _).setCell (by show B ≤ k; exact hk) _
set_option maxRecDepth 4000 in
theorem Off.drop {g : Nat} {w w' : World} (h : Off g w w') (hg : w'.heap[g]? = w.heap[g]?) : Below w.heap.size w w' :=
  ⟨h.os, h.tape, h.output, h.size, fun k hk => by
    rcases Classical.em (k = g) with e | e
    · rw [e]; exact hg
    · exact h.block k hk e⟩

set_option maxRecDepth 4000 in
theorem Off.drew {g : Nat} {w w' : World} (h : Off g w w') : Off g w w'.drew := ⟨h.os, h.tape, h.output, h.size, h.block⟩
set_option maxRecDepth 4000 in
theorem Off.alloc {g : Nat} {w w' : World} (h : Off g w w') (o : Obj) : Off g w (w'.alloc o) :=
  ⟨h.os, h.tape, h.output, by have := h.size; simp; omega, fun k hk hg => by
    have := h.size
    rw [Below.heap_alloc _ _ _ (by omega)]; exact h.block k hk hg⟩
/-- What the call for a kid leaves, in a variable. -/
def KidAt (g : Nat) (w2 : World) (r : NT × Int) (s : Option NT) (s8 s9 : Value) (wx : World) : Prop :=
  ∃ g8 lf PA np pc TA nt tc KA nk kc d, s8 = .pointer (some ⟨g8, 0, none⟩) ∧ s9 = .int .i64 r.2 ∧ w2.heap.size ≤ g8 ∧ wx.heap[g8]? = some (.cells #[.bool lf, .slice PA np pc, .slice TA nt tc, .slice KA nk kc] 27 (0, 0)) ∧
    TreeP (fun b => w2.heap.size ≤ b ∧ b < wx.heap.size ∧ b ≠ g8) d wx (.agg #[.bool lf, .slice PA np pc, .slice TA nt tc, .slice KA nk kc]) r.1 ∧ Off g w2 wx ∧ LeftAt g s w2 wx
set_option maxRecDepth 4000 in
theorem kid_new {g : Nat} {w2 w3 : World} {r : NT × Int} {s : Option NT} {lf : Bool} {PA : Option Addr} {np pc : Nat} {TA : Option Addr} {nt tc : Nat} {KA : Option Addr} {nk kc d : Nat} {W : World} (hW : Below w2.heap.size w2 W) (hg : g < w2.heap.size)
    (ht : TreeP (fun b => W.heap.size ≤ b ∧ b < w3.heap.size) d w3 (.agg #[.bool lf, .slice PA np pc, .slice TA nt tc, .slice KA nk kc]) r.1) (ho : Off g W w3) (hl : LeftAt g s W w3) :
    KidAt g w2 r s (.pointer (some ⟨w3.heap.size, 0, none⟩)) (.int .i64 r.2) (w3.alloc (.cells #[.bool lf, .slice PA np pc, .slice TA nt tc, .slice KA nk kc] 27)) := by
  have h1 := hW.size
  have h2 := ho.size
  have e : (w3.alloc (.cells #[.bool lf, .slice PA np pc, .slice TA nt tc, .slice KA nk kc] 27)).heap.size = w3.heap.size + 1 := by simp
  refine ⟨_, _, _, _, _, _, _, _, _, _, _, d, rfl, rfl, by omega, heap_alloc_new _ _, ht.block_keep (fun b a1 a2 => by omega) (fun b _ a2 => Below.heap_alloc _ _ _ a2), ((Off.of_below hW).trans ho).alloc _, hl.move h1 (by omega) (hW.block g hg) (Below.heap_alloc _ _ _ (by omega)) (fun b _ a2 => Below.heap_alloc _ _ _ a2)⟩
set_option maxRecDepth 4000 in
theorem kid_set {g : Nat} {w2 w3 : World} {r : NT × Int} {s : Option NT} {lf : Bool} {PA : Option Addr} {np pc : Nat} {TA : Option Addr} {nt tc : Nat} {KA : Option Addr} {nk kc d g8 : Nat} {W : World} {z0 z1 z2 z3 : Value} (hW : Below w2.heap.size w2 W) (hg : g < w2.heap.size) (hg8 : w2.heap.size ≤ g8) (hg9 : g8 < W.heap.size)
    (hO : w3.heap[g8]? = some (.cells #[z0, z1, z2, z3] 27 (0, 0))) (ht : TreeP (fun b => W.heap.size ≤ b ∧ b < w3.heap.size) d w3 (.agg #[.bool lf, .slice PA np pc, .slice TA nt tc, .slice KA nk kc]) r.1) (ho : Off g W w3) (hl : LeftAt g s W w3) :
    KidAt g w2 r s (.pointer (some ⟨g8, 0, none⟩)) (.int .i64 r.2) ((((w3.setCell ⟨g8, 0, none⟩ (.bool lf)).setCell ⟨g8, 1, none⟩ (.slice PA np pc)).setCell ⟨g8, 2, none⟩ (.slice TA nt tc)).setCell ⟨g8, 3, none⟩ (.slice KA nk kc)) := by
  have h1 := hW.size
  have h2 := ho.size
  refine ⟨g8, _, _, _, _, _, _, _, _, _, _, d, rfl, rfl, hg8, set4_block hO, ht.block_keep (fun b a1 a2 => by rw [set4_size]; omega) (fun b a1 a2 => set4_other (by omega)), ((Off.of_below hW).trans ho).set4 (.inl hg8), hl.move h1 (by rw [set4_size]; exact Nat.le_refl _) (hW.block g hg) (set4_other (by omega)) (fun b a1 _ => set4_other (by omega))⟩

/-- What a closure does that makes a node out of one; C: what it finds in what it has captured. -/
structure Remake1 (fv : FuncId) (c1 : Value) (g : Nat) (f : NT → NT × Int) (s : NT → Option NT) (C : World → Prop) (pre : NT → Prop) : Prop where
  enters : ∀ args w, (callFunc fv args).run Try.prog w = .ok (.enter fv args) w
  later : ∀ w w', C w → Below w.heap.size w w' → C w'
  does : ∀ d w v n, NodeAt d w g v n → g < w.heap.size → C w → pre n → Calls Try.prog fv #[v, c1] w (NewO g (f n) (s n) w)
/-- What a closure does that makes a node out of one; C: what it finds in what it has captured. -/
structure Remake2 (fv : FuncId) (c1 c2 : Value) (g : Nat) (f : NT → NT × Int) (s : NT → Option NT) (C : World → Prop) (pre : NT → Prop) : Prop where
  enters : ∀ args w, (callFunc fv args).run Try.prog w = .ok (.enter fv args) w
  later : ∀ w w', C w → Below w.heap.size w w' → C w'
  does : ∀ d w v n, NodeAt d w g v n → g < w.heap.size → C w → pre n → Calls Try.prog fv #[v, c1, c2] w (NewO g (f n) (s n) w)

set_option maxRecDepth 4000 in
theorem chg_cons_none {f : NT → NT × Int} {n : NT} {i : Int} {r : List Int} (h : kidT n i = none) : chgT f n (i :: r) = (zeroT, 5) ∧ getO n (i :: r) = none := by
  rw [chgT, getO_cons, h]; exact ⟨rfl, rfl⟩
set_option maxRecDepth 4000 in
theorem chg_cons_some {f : NT → NT × Int} {n k : NT} {i : Int} {r : List Int} (h : kidT n i = some k) : chgT f n (i :: r) = (if (chgT f k r).2 = 0 then (setK n i.toNat (chgT f k r).1, 0) else (zeroT, (chgT f k r).2)) ∧ getO n (i :: r) = getO k r := by
  rw [chgT, getO_cons, h]; exact ⟨rfl, rfl⟩

end Go.Proofs.Ytdjajpookmmafaa

namespace Go.Proofs.Ytdjajpookmmafaa
open Go.RowKit

theorem NewN.of_newO {g : Nat} {r : NT × Int} {w w' : World} {e : Ending} (h : NewO g r none w e w') : NewN r w e w' := by
  obtain ⟨v, d, h1, h2, h3, h4⟩ := h
  exact ⟨v, d, h1, h2, h3.drop h4⟩
/-- A node in a variable: block b holds it, its tree lies below g. -/
def VarAt (b g d : Nat) (n : NT) (w : World) : Prop := ∃ lf PA np pc TA nt tc KA nk kc, w.heap[b]? = some (.cells #[.bool lf, .slice PA np pc, .slice TA nt tc, .slice KA nk kc] 27 (0, 0)) ∧ NodeAt d w g (.agg #[.bool lf, .slice PA np pc, .slice TA nt tc, .slice KA nk kc]) n
set_option maxRecDepth 4000 in
theorem VarAt.later {b g d : Nat} {n : NT} {w w' : World} (h : VarAt b g d n w) (hg : g ≤ w.heap.size) (hb : Below w.heap.size w w') : VarAt b g d n w' := by
  obtain ⟨lf, PA, np, pc, TA, nt, tc, KA, nk, kc, h1, h2⟩ := h
  exact ⟨lf, PA, np, pc, TA, nt, tc, KA, nk, kc, keepBlk h1 hb, h2.below (hb.mono hg)⟩

set_option maxRecDepth 4000 in
theorem bind_none {α β : Type} (o : Option α) : o.bind (fun _ => (none : Option β)) = none := by cases o <;> rfl

end Go.Proofs.Ytdjajpookmmafaa

namespace Go.Proofs.Ytdjajpookmmafaa
open Go.RowKit

/-- A number in a variable. -/
def NumAt (b : Nat) (i : Int) (w : World) : Prop := w.heap[b]? = some (.cells #[.int .i64 i] 3 (0, 0))
set_option maxRecDepth 4000 in
theorem num_cell {b : Nat} {i : Int} {w : World} (h : NumAt b i w) : w.cell? ⟨b, 0, none⟩ = some (.int .i64 i) := by simp [World.cell?, show w.heap[b]? = _ from h]

set_option maxRecDepth 4000 in
theorem others_one {Q : Nat → Prop} {d : Nat} {w3 : World} {c0 c1 c2 c3 : Value} {m : NT} (t : TypeId) (ht : TreeP Q d w3 (.agg #[c0, c1, c2, c3]) m) (hQ : ∀ b, Q b → b < w3.heap.size) : Others Q d (w3.alloc (.cells #[c0, c1, c2, c3] t)) (some ⟨w3.heap.size, 0, none⟩) [.agg #[c0, c1, c2, c3]] [m] := by
  have hb : Below w3.heap.size w3 (w3.alloc (.cells #[c0, c1, c2, c3] t)) := (Below.refl _ _).alloc (Nat.le_refl _) _
  refine ⟨rfl, ?_, fun q x hx => ?_⟩
  · have := VL_new w3 t [c0, c1, c2, c3]
    rw [← show (w3.alloc (.cells #[c0, c1, c2, c3] t)).heap.size = w3.heap.size + 1 by simp] at this
    simpa [Value.cells] using this
  · cases q with
    | zero =>
      simp only [List.getElem?_cons_zero, Option.some.injEq] at hx
      subst hx
      exact ⟨_, rfl, ht.keep (fun _ h => h) (fun p hp => ⟨hb.cell (hQ _ hp), hb.frozen (hQ _ hp)⟩)⟩
    | succ q => simp at hx
set_option maxRecDepth 4000 in
theorem Others.deep {Q : Nat → Prop} {d d' : Nat} {w : World} {OA : Option Addr} {us : List Value} {os : List NT} (h : Others Q d w OA us os) (hd : d ≤ d') : Others Q d' w OA us os :=
  ⟨h.len, h.cells, fun j m hm => by
    obtain ⟨u, h1, h2⟩ := h.trees j m hm
    exact ⟨u, h1, h2.deep hd⟩⟩

set_option maxRecDepth 4000 in
theorem parent_nil {p : List Int} (h : p.length = 0) : parentL p = ([], 6) := by unfold parentL; rw [if_pos h]
set_option maxRecDepth 4000 in
theorem parent_cons {p : List Int} {k : Nat} (h : p.length = k + 1) : parentL p = (p.take k, 0) ∧ upP p = p.take k ∧ lastL p = iAt p k := by
  refine ⟨by unfold parentL; rw [if_neg (by omega), h]; rfl, by unfold upP; rw [h]; rfl, by unfold lastL; rw [h]; rfl⟩

end Go.Proofs.Ytdjajpookmmafaa

namespace Go.Proofs.Ytdjajpookmmafaa
open Go.RowKit

/-- A node's variable that stands empty or not. -/
def SomeAt (g : Nat) (w : World) : Prop := ∃ u0 u1 u2 u3, w.heap[g]? = some (.cells #[u0, u1, u2, u3] 27 (0, 0))

/-- Two new trees, and an error's number. -/
def NewC (r1 r2 : NT) (er : Int) (w : World) (e : Ending) (w' : World) : Prop :=
  ∃ v1 v2 d, e = .returned (.tuple #[v1, v2, .int .i64 er]) ∧ TreeP (fun b => w.heap.size ≤ b ∧ b < w'.heap.size) d w' v1 r1 ∧ TreeP (fun b => w.heap.size ≤ b ∧ b < w'.heap.size) d w' v2 r2 ∧ Below w.heap.size w w'
set_option maxRecDepth 4000 in
theorem newC_ret {r1 r2 : NT} {er : Int} {w w' : World} {v1 v2 : Value} {d1 d2 : Nat} (h1 : TreeP (fun b => w.heap.size ≤ b ∧ b < w'.heap.size) d1 w' v1 r1) (h2 : TreeP (fun b => w.heap.size ≤ b ∧ b < w'.heap.size) d2 w' v2 r2) (hb : Below w.heap.size w w') : NewC r1 r2 er w (.returned (.tuple #[v1, v2, .int .i64 er])) w' :=
  ⟨v1, v2, max d1 d2, rfl, h1.deep (Nat.le_max_left _ _), h2.deep (Nat.le_max_right _ _), hb⟩

set_option maxRecDepth 4000 in
theorem TreeP.set4' {lo hi g dd : Nat} {w : World} {v : Value} {n : NT} {a b c d : Value} (h : TreeP (fun b => lo ≤ b ∧ b < hi) dd w v n) (hg : g < lo) : TreeP (fun b => lo ≤ b ∧ b < hi) dd ((((w.setCell ⟨g, 0, none⟩ a).setCell ⟨g, 1, none⟩ b).setCell ⟨g, 2, none⟩ c).setCell ⟨g, 3, none⟩ d) v n :=
  h.block_keep (fun _ h1 h2 => ⟨h1, h2⟩) (fun _ h1 _ => set4_other (by omega))
set_option maxRecDepth 4000 in
theorem TreeP.drew' {P : Nat → Prop} {d : Nat} {w : World} {v : Value} {n : NT} (h : TreeP P d w v n) : TreeP P d w.drew v n := TreeP.keep (w := w) (w' := w.drew) (fun _ h => h) (fun _ _ => ⟨rfl, rfl⟩) h
set_option maxRecDepth 4000 in
theorem TreeP.widen {lo hi d : Nat} {w w0 : World} {v : Value} {n : NT} (h : TreeP (fun b => lo ≤ b ∧ b < hi) d w v n) (hl : w0.heap.size ≤ lo) (hh : hi ≤ w.heap.size) : TreeP (fun b => w0.heap.size ≤ b ∧ b < w.heap.size) d w v n :=
  h.keep (fun _ hb => ⟨Nat.le_trans hl hb.1, Nat.lt_of_lt_of_le hb.2 hh⟩) (fun _ _ => ⟨rfl, rfl⟩)
set_option maxRecDepth 4000 in
theorem cut_out {w w2 W7 : World} {lo g1 g2 : Nat} {F1 M : NT} {F2 : Int} {d2 d5 : Nat} {v4 v5 a b c d a' b' c' d' : Value} (h1 : w.heap.size ≤ g1) (h2 : w.heap.size ≤ g2) (hl1 : g1 < lo) (hl2 : g2 < lo) (hs : W7.heap.size = w2.heap.size) (hk : ∀ q, lo ≤ q → q < w2.heap.size → W7.heap[q]? = w2.heap[q]?)
    (hT2 : TreeP (fun b => lo ≤ b ∧ b < w2.heap.size) d2 w2 v4 F1) (hT5 : TreeP (fun b => lo ≤ b ∧ b < w2.heap.size) d5 w2 v5 M) (hW : Below w.heap.size w W7) :
    NewC F1 M F2 w (.returned (.tuple #[v4, v5, .int .i64 F2])) (((((((((W7.setCell ⟨g1, 0, none⟩ a).setCell ⟨g1, 1, none⟩ b).setCell ⟨g1, 2, none⟩ c).setCell ⟨g1, 3, none⟩ d).setCell ⟨g2, 0, none⟩ a').setCell ⟨g2, 1, none⟩ b').setCell ⟨g2, 2, none⟩ c').setCell ⟨g2, 3, none⟩ d').drew) := by
  obtain ⟨W8, hW8⟩ : ∃ W8, W8 = ((((W7.setCell ⟨g1, 0, none⟩ a).setCell ⟨g1, 1, none⟩ b).setCell ⟨g1, 2, none⟩ c).setCell ⟨g1, 3, none⟩ d) := ⟨_, rfl⟩
  obtain ⟨W9, hW9⟩ : ∃ W9, W9 = ((((W8.setCell ⟨g2, 0, none⟩ a').setCell ⟨g2, 1, none⟩ b').setCell ⟨g2, 2, none⟩ c').setCell ⟨g2, 3, none⟩ d') := ⟨_, rfl⟩
  rw [← hW8, ← hW9]
  have s8 : W8.heap.size = w2.heap.size := by rw [hW8, set4_size, hs]
  have s9 : W9.heap.size = w2.heap.size := by rw [hW9, set4_size, s8]
  have k9 : ∀ q, lo ≤ q → q < w2.heap.size → W9.heap[q]? = w2.heap[q]? := fun q q1 q2 => by
    rw [hW9, set4_other (by omega), hW8, set4_other (by omega)]; exact hk q q1 q2
  have b8 : Below w.heap.size w W8 := hW8 ▸ Below.set4 hW h1
  have b9 : Below w.heap.size w W9 := hW9 ▸ Below.set4 b8 h2
  have t : ∀ {dd : Nat} {v : Value} {n : NT}, TreeP (fun b => lo ≤ b ∧ b < w2.heap.size) dd w2 v n → TreeP (fun b => w.heap.size ≤ b ∧ b < W9.drew.heap.size) dd W9.drew v n := fun {dd v n} h =>
    (h.block_keep (w' := W9) (Q := fun b => w.heap.size ≤ b ∧ b < W9.drew.heap.size) (fun b q1 q2 => ⟨by omega, by show b < W9.heap.size; omega⟩) k9).drew'
  exact newC_ret (t hT2) (t hT5) b9.drew
set_option maxRecDepth 4000 in
theorem left_val {g : Nat} {s : Option NT} {w w' : World} (h : LeftAt g s w w') (hz : w.heap[g]? = some (.cells #[.bool false, .slice none 0 0, .slice none 0 0, .slice none 0 0] 27 (0, 0))) :
    ∃ lf PA np pc TA nt tc KA nk kc d, w'.heap[g]? = some (.cells #[.bool lf, .slice PA np pc, .slice TA nt tc, .slice KA nk kc] 27 (0, 0)) ∧ TreeP (fun b => w.heap.size ≤ b ∧ b < w'.heap.size) d w' (.agg #[.bool lf, .slice PA np pc, .slice TA nt tc, .slice KA nk kc]) (s.getD zeroT) := by
  cases s with
  | none => exact ⟨_, _, _, _, _, _, _, _, _, _, 1, Eq.trans h hz, zero_tree _ 0 _⟩
  | some t =>
    obtain ⟨u0, u1, u2, u3, d, h1, h2⟩ := h
    obtain ⟨lf, PA, np, pc, TA, nt, tc, KA, nk, kc, e⟩ := (h2.at_ (B := w'.heap.size) (fun b hb => hb.2)).val
    simp only [Value.agg.injEq, Array.mk.injEq, List.cons.injEq, and_true] at e
    obtain ⟨rfl, rfl, rfl, rfl⟩ := e
    exact ⟨_, _, _, _, _, _, _, _, _, _, d, h1, h2⟩

end Go.Proofs.Ytdjajpookmmafaa
