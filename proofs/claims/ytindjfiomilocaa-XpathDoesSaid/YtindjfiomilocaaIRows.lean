/- Levels and the document's; SameAll: lists of paths in memory. -/
import Derived.Test.YtindjfiomilocaaIMake2
import Derived.Test.YtindjfiomilocaaILeft
namespace Go.Proofs.Ytindjfiomilocaa
open Go.RowKit
open Go.WideShapes (add_plain)

theorem rowInfo : (Try.prog.info? 22).map (fun i => (i.zero, i.size, i.bytes)) = some (some (.slice none 0 0), 1, 24) := by kernel_rfl

def lAt (L : List (List Int)) (k : Nat) : List Int := L.getD k []
set_option maxRecDepth 4000 in
theorem lAt_eq (L : List (List Int)) (k : Nat) (hk : k < L.length) : lAt L k = L[k] := by
  unfold lAt; rw [List.getD_eq_getElem?_getD, List.getElem?_eq_getElem hk]; rfl

/-- The slice at A holds the paths L, all below block B. -/
def RL (w : World) (B : Nat) (A : Option Addr) (L : List (List Int)) : Prop :=
  L ≠ [] → ∃ b o, A = some ⟨b, o, none⟩ ∧ b < B ∧ ∀ k, k < L.length → ∃ (Ak : Option Addr) (ck : Nat), w.cell? ⟨b, o + k, none⟩ = some (.slice Ak (lAt L k).length ck) ∧ (lAt L k).length ≤ ck ∧ IL w B Ak (lAt L k)
set_option maxRecDepth 4000 in
theorem RL.keep {w w' : World} {B : Nat} {A : Option Addr} {L : List (List Int)} (h : RL w B A L) (hk : ∀ p : Addr, p.block < B → w'.cell? p = w.cell? p) : RL w' B A L := fun hn => by
  obtain ⟨b, o, e, hb, hc⟩ := h hn
  refine ⟨b, o, e, hb, fun k hkl => ?_⟩
  obtain ⟨Ak, ck, h1, h2, h3⟩ := hc k hkl
  exact ⟨Ak, ck, (hk _ hb).trans h1, h2, h3.keep hk⟩
set_option maxRecDepth 4000 in
theorem RL.below {w w' : World} {B : Nat} {A : Option Addr} {L : List (List Int)} (h : RL w B A L) (hb : Below B w w') : RL w' B A L := h.keep fun _ hp => hb.cell hp
set_option maxRecDepth 4000 in
theorem RL.more {w : World} {B B' : Nat} {A : Option Addr} {L : List (List Int)} (h : RL w B A L) (hB : B ≤ B') : RL w B' A L := fun hn => by
  obtain ⟨b, o, e, hb, hc⟩ := h hn
  refine ⟨b, o, e, by omega, fun k hkl => ?_⟩
  obtain ⟨Ak, ck, h1, h2, h3⟩ := hc k hkl
  exact ⟨Ak, ck, h1, h2, h3.more hB⟩
set_option maxRecDepth 4000 in
theorem RL.later {w w' : World} {A : Option Addr} {L : List (List Int)} (h : RL w w.heap.size A L) (hb : Below w.heap.size w w') : RL w' w'.heap.size A L := (h.below hb).more hb.size
set_option maxRecDepth 4000 in
theorem RL.at_ {w : World} {B : Nat} {A : Option Addr} {L : List (List Int)} (h : RL w B A L) {k : Nat} (hk : k < L.length) :
    ∃ b o Ak ck, A = some ⟨b, o, none⟩ ∧ b < B ∧ w.cell? ⟨b, o + k, none⟩ = some (.slice Ak (lAt L k).length ck) ∧ (lAt L k).length ≤ ck ∧ IL w B Ak (lAt L k) := by
  obtain ⟨b, o, e, hb, hc⟩ := h (by intro e; subst e; simp at hk)
  obtain ⟨Ak, ck, h1, h2, h3⟩ := hc k hk
  exact ⟨b, o, Ak, ck, e, hb, h1, h2, h3⟩

/-- The value v is a row of the call's own_i of the paths L, each of them a row of the call's own_i. -/
def OwnR (w : World) (b : Nat) (v : Value) (L : List (List Int)) : Prop :=
  ∃ (vs : List Value), vs.length = L.length ∧ w.ownsRow b 22 1 v L.length vs ∧ ∀ k u, vs[k]? = some u → OwnI w b u (lAt L k)

set_option maxRecDepth 4000 in
theorem own_apart {w : World} {b b' e e' s s' n n' : Nat} {v u : Value} {xs ys : List Value} (h : w.ownsRow b e s v n xs) (h' : w.ownsRow b' e' s' u n' ys) (hne : e ≠ e') : u.ownBlock = none ∨ u.ownBlock ≠ v.ownBlock := by
  rcases h'.2 with ⟨rfl, _⟩ | ⟨g', cap', cur', rfl, _, hg', _⟩
  · exact .inl rfl
  · rcases h.2 with ⟨rfl, _⟩ | ⟨g, cap, cur, rfl, _, hg, _⟩
    · exact .inr (by simp [Value.ownBlock])
    · refine .inr fun hh => ?_
      simp only [Value.ownBlock, Option.some.injEq] at hh
      rw [hh, hg] at hg'
      injection hg' with hg'
      injection hg' with _ h2
      exact hne h2
set_option maxRecDepth 4000 in
theorem OwnI.grown {w w' : World} {b b' n : Nat} {u v : Value} {l : List Int} {xs : List Value} (h : OwnI w b u l) (hr : w.ownsRow b' 22 1 v n xs) (hg : w.grownBy w' v.ownBlock) : OwnI w' b u l :=
  OwnI.of_own (h.own.kept hg (own_apart hr h.own (by decide))) rfl
set_option maxRecDepth 4000 in
theorem OwnI.open_at {w : World} {b : Nat} {v : Value} {l : List Int} (h : OwnI w b v l) (n : Nat) (hn : l.length = n) : ∃ (A : Option Addr) (c : Nat), v = .slice A n c ∧ n ≤ c ∧ IL w w.heap.size A l := by
  subst hn
  obtain ⟨A, c, h1, h2, _, h3⟩ := h.open_
  exact ⟨A, c, h1, h2, h3⟩
set_option maxRecDepth 4000 in
theorem OwnR.nil (w : World) (b : Nat) : OwnR w b (.slice none 0 0) [] := ⟨[], rfl, World.ownsRow_nil w b 22 1, by simp⟩
set_option maxRecDepth 4000 in
theorem OwnR.below {w w' : World} {b : Nat} {v : Value} {L : List (List Int)} (h : OwnR w b v L) (hb : Below w.heap.size w w') : OwnR w' b v L := by
  obtain ⟨vs, h1, h2, h3⟩ := h
  refine ⟨vs, h1, ⟨h2.1, ?_⟩, fun k u hu => (h3 k u hu).below hb⟩
  rcases h2.2 with h4 | ⟨g, cap, cur, e2, hbg, hg, rest⟩
  · exact .inl h4
  · refine .inr ⟨g, cap, cur, e2, hbg, ?_, rest⟩
    rw [hb.block g (Array.getElem?_eq_some_iff.1 hg).1]
    exact hg
set_option maxRecDepth 4000 in
theorem OwnR.lt {w : World} {b : Nat} {v : Value} {L : List (List Int)} (h : OwnR w b v L) {j : Nat} (hj : v.ownBlock = some j) : b ≤ j ∧ j < w.heap.size := by
  obtain ⟨vs, _, h2, _⟩ := h
  exact h2.lt j hj
set_option maxRecDepth 4000 in
theorem OwnR.open_ {w : World} {b : Nat} {v : Value} {L : List (List Int)} (h : OwnR w b v L) : ∃ (A : Option Addr) (c : Nat), v = .slice A L.length c ∧ L.length ≤ c ∧ RL w w.heap.size A L := by
  obtain ⟨vs, h1, h2, h3⟩ := h
  rcases h2.2 with ⟨e, h0⟩ | ⟨g, cap, cur, e, hbg, hg, hnc, _⟩
  · exact ⟨none, 0, by rw [e, h0], by omega, fun hn => absurd (List.eq_nil_of_length_eq_zero h0) hn⟩
  · refine ⟨some ⟨g, 0, none⟩, cap, e, hnc, fun _ => ⟨g, 0, rfl, (Array.getElem?_eq_some_iff.1 hg).1, fun k hk => ?_⟩⟩
    have hv : vs[k]? = some vs[k] := List.getElem?_eq_getElem (by omega)
    have hc := h2.cells (g := g) (by rw [e]; rfl) k _ hv
    rw [add_plain] at hc
    obtain ⟨Ak, ck, e2, h5, h6, h7⟩ := (h3 k _ hv).open_
    rw [e2] at hc
    exact ⟨Ak, ck, hc, h5, h7⟩

set_option maxRecDepth 4000 in
/-- One path appended to a row of the call's own_i. -/
theorem wpList_append_R (W : World) {ops : Array Oper} {rest : List Oper} {o : Oper} {a : Act} {Q : Exit → Act → World → Prop} (hgd : o.guard = none) (s x : Operand)
    (ho : o.op = .call { callee := .builtin .append, args := #[s, x], argTypes := #[51, 51] })
    (b : Nat) (v y : Value) (L : List (List Int)) (l : List Int) (hs : a.eval s = v) (hO : OwnR W b v L) (hy : OwnI W b y l) (g : Nat) (hg : g = W.heap.size) (hx : a.eval x = .slice (some ⟨g, 0, none⟩) 1 1) (hlen : L.length ≤ 5000) (hb : b ≤ W.heap.size)
    (hK : ∀ v' w', OwnR w' b v' (L ++ [l]) → Grew b v W w' → wpList Try.prog ops Q rest (a.put o.dst v') w') :
    wpList Try.prog ops Q (o :: rest) a (W.alloc (.cells #[y] 22)) := by
  subst hg
  obtain ⟨i0, hi, hz0, hz1, hz2⟩ := info_parts rowInfo
  have hA : Below W.heap.size W (W.alloc (.cells #[y] 22)) := (Below.refl _ _).alloc (Nat.le_refl _) _
  obtain ⟨vs, h1, h2, h3⟩ := hO.below hA
  have hyy := hy.below hA
  have hone : y.oneCell' = true := by
    obtain ⟨Ay, cy, rfl, _⟩ := hy
    rfl
  refine wpList_append_own _ hgd s x 51 ho b 22 i0 _ 1 24 Try.underlying51 hi hz0 hz1 hz2 rfl (by decide) v L.length vs hs h2 ⟨W.heap.size, 0, none⟩ 1 1 [y] hx rfl (cell_one_new _ _ _) (by simpa using hone)
    (by unfold maxLen; omega) (by omega) (by simp; omega) (fun v' w' h4 h5 _ => hK v' w' ⟨vs ++ [y], by simp [h1], by simpa using h4, fun k u hu => ?_⟩ ?_)
  · rw [List.getElem?_append] at hu
    split at hu
    · rename_i hk
      have : lAt (L ++ [l]) k = lAt L k := by rw [lAt_eq _ k (by simp; omega), lAt_eq L k (by omega), List.getElem_append_left (by omega)]
      rw [this]
      exact (h3 k u hu).grown h2 h5
    · rename_i hk
      have hk0 : k - vs.length = 0 := by
        have := (List.getElem?_eq_some_iff.1 hu).1
        simp at this; omega
      rw [hk0] at hu
      have hu : y = u := by simpa using hu
      subst hu
      have : lAt (L ++ [l]) k = l := by
        have : k = L.length := by omega
        subst this
        simp [lAt]
      rw [this]
      exact hyy.grown h2 h5
  · have hsz : (W.alloc (.cells #[y] 22)).heap.size = W.heap.size + 1 := by simp
    refine ⟨by have := h5.size; omega, fun B w0 hB hBW hb0 => (hb0.alloc hBW _).grown h5 (by omega) (fun j hj => Nat.le_trans hB (hO.lt hj).1), fun p hp hne => ?_⟩
    exact (World.cell?_of_block (h5.block p.block (by omega) hne)).trans (World.cell?_alloc_lt _ _ p hp)

def NewR (w : World) (L : List (List Int)) (e : Ending) (w' : World) : Prop := ∃ v, e = .returned v ∧ OwnR w' w.heap.size v L ∧ Below w.heap.size w w'
def levTo (l : List Int) (n : Nat) : List (List Int) := (List.range n).map fun j => l.take j
set_option maxRecDepth 4000 in
theorem levTo_more (l : List Int) (n : Nat) : levTo l n ++ [l.take n] = levTo l (n + 1) := by unfold levTo; rw [List.range_succ]; simp
set_option maxRecDepth 4000 in
theorem levTo_length (l : List Int) (n : Nat) : (levTo l n).length = n := by simp [levTo]
set_option maxRecDepth 4000 in
theorem levTo_all (l : List Int) : levelsL l = levTo l (l.length + 1) := rfl
set_option maxRecDepth 4000 in
theorem run_mkR (n : Nat) (hn : n ≤ 10000) (w : World) : (Instr.makeSlice 51 (.int .i64 0) (.int .i64 (n : Int))).run Try.prog w = .ok (.slice (some ⟨w.heap.size, 0, none⟩) 0 n) (w.alloc (.cells (madeCells #[.slice none 0 0] n) 22)) := by
  obtain ⟨i0, hi, hz0, hz1, hz2⟩ := info_parts rowInfo
  have h := run_makeSlice (P := Try.prog) w 51 22 i0 _ Try.underlying51 hi hz0 .i64 .i64 0 (n : Int) (by omega) (by omega) (by rw [hz1]; simp; omega) (by rw [hz2]; omega) (by omega)
  rw [h, hz1]
  simp [Value.cells]
set_option maxRecDepth 4000 in
theorem OwnR.made (w : World) (b n : Nat) (hn : n ≤ 10000) (hb : b ≤ w.heap.size) : OwnR (w.alloc (.cells (madeCells #[.slice none 0 0] n) 22)) b (.slice (some ⟨w.heap.size, 0, none⟩) 0 n) [] :=
  ⟨[], rfl, World.ownsRow_made w _ n hb (by unfold maxLen; omega) (by rw [size_madeCells]; omega), by simp⟩

set_option maxRecDepth 4000 in
theorem all_same (L M : List (List Int)) (h : L.length = M.length) (h0 : ∀ j, j < L.length → lAt L j = lAt M j) : decide (L = M) = true := by
  rw [decide_eq_true_iff]
  apply List.ext_getElem h
  intro i h1 h2
  have := h0 i h1
  rwa [lAt_eq L i h1, lAt_eq M i h2] at this

end Go.Proofs.Ytindjfiomilocaa
