/- The chapter's example, and whether trees and paths are small. Trees that stand somewhere in memory, and variables that hold what they held: the calls' contracts, said for laws. Trees at paths: bounds, a tree whose row is its own with another kid, and the calls' contracts with lengths as letters. A row of nodes that a call makes out of the Kids of others. -/
import Derived.Test.YtdjajpookmmafaaTGets
import Derived.Test.YtdjajpookmmafaaIBase
namespace Go.Proofs.Ytdjajpookmmafaa
open Go.RowKit

def lfT (l : List Int) : NT := .mk true [] l []
def elT (ks : List NT) : NT := .mk false [(tyKey, { data := #[112] })] [] ks
set_option maxRecDepth 4000 in
theorem runes_b : Conv.runesFrom { data := #[98] } (ByteArray.size { data := #[98] }) 0 #[] = (rv [98]).toArray := by kernel_rfl
set_option maxRecDepth 4000 in
theorem el_fit {cp kc nk : Nat} (hcp : 1 ≤ cp) (hk : nk ≤ 10) (hkc : nk ≤ kc) : FitN [((tyKey, { data := #[112] }) : Pr)] 0 nk cp 0 kc := ⟨⟨by simp, ex_wide⟩, by simp, by omega, by omega, by simpa using hcp, by omega, hkc⟩
set_option maxRecDepth 4000 in
theorem el_two {w : World} {gp cp g1 c1 g2 c2 b : Nat} (hcp : 1 ≤ cp) (hc1 : 1 ≤ c1) (hc2 : 1 ≤ c2) (hp : PL w w.heap.size (some ⟨gp, 0, none⟩) [(tyKey, { data := #[112] })]) (h1 : VL w w.heap.size (some ⟨g1, 0, none⟩) (rv [97])) (h2 : VL w w.heap.size (some ⟨g2, 0, none⟩) (rv [98])) (hb : b < w.heap.size)
    (hc : ∀ j u, #[Value.bool true, .slice none 0 0, .slice (some ⟨g1, 0, none⟩) 1 c1, .slice none 0 0, .bool true, .slice none 0 0, .slice (some ⟨g2, 0, none⟩) 1 c2, .slice none 0 0][j]? = some u → w.cell? ⟨b, j, none⟩ = some u) :
    NodeAt 2 w w.heap.size (.agg #[.bool false, .slice (some ⟨gp, 0, none⟩) 1 cp, .slice none 0 0, .slice (some ⟨b, 0, none⟩) 2 2]) (elT [lfT [97], lfT [98]]) := by
  refine NodeAt.shut rfl rfl rfl hp (VL.nil _ _ _) (el_fit hcp (by decide) (by decide)) (fun k m hk => ?_)
  match k, hk with
  | 0, hk =>
    simp at hk; subst hk
    exact ⟨b, 0, _, rfl, hb, ex_leaf rfl (by simp) hc1 h1, _, _, _, _, rfl, hc 0 _ rfl, hc 1 _ rfl, hc 2 _ rfl, hc 3 _ rfl⟩
  | 1, hk =>
    simp at hk; subst hk
    exact ⟨b, 0, _, rfl, hb, ex_leaf rfl (by simp) hc2 h2, _, _, _, _, rfl, hc 4 _ rfl, hc 5 _ rfl, hc 6 _ rfl, hc 7 _ rfl⟩
  | k + 2, hk => simp at hk
set_option maxRecDepth 4000 in
theorem el_one {w : World} {gp cp g1 c1 b : Nat} (hcp : 1 ≤ cp) (hc1 : 1 ≤ c1) (hp : PL w w.heap.size (some ⟨gp, 0, none⟩) [(tyKey, { data := #[112] })]) (h1 : VL w w.heap.size (some ⟨g1, 0, none⟩) (rv [98])) (hb : b < w.heap.size)
    (hc : ∀ j u, #[Value.bool true, .slice none 0 0, .slice (some ⟨g1, 0, none⟩) 1 c1, .slice none 0 0][j]? = some u → w.cell? ⟨b, j, none⟩ = some u) :
    NodeAt 2 w w.heap.size (.agg #[.bool false, .slice (some ⟨gp, 0, none⟩) 1 cp, .slice none 0 0, .slice (some ⟨b, 0, none⟩) 1 1]) (elT [lfT [98]]) := by
  refine NodeAt.shut rfl rfl rfl hp (VL.nil _ _ _) (el_fit hcp (by decide) (by decide)) (fun k m hk => ?_)
  match k, hk with
  | 0, hk =>
    simp at hk; subst hk
    exact ⟨b, 0, _, rfl, hb, ex_leaf rfl (by simp) hc1 h1, _, _, _, _, rfl, hc 0 _ rfl, hc 1 _ rfl, hc 2 _ rfl, hc 3 _ rfl⟩
  | k + 1, hk => simp at hk
set_option maxRecDepth 4000 in
theorem live_cut : cutE (elT [lfT [97], lfT [98]]) [0] = (elT [lfT [98]], 0) ∧ cutM (elT [lfT [97], lfT [98]]) [0] = lfT [97] := ⟨rfl, rfl⟩
set_option maxRecDepth 4000 in
theorem il_zero {w : World} {b : Nat} (hb : b < w.heap.size) (hc : w.cell? ⟨b, 0, none⟩ = some (.int .i64 0)) : IL w w.heap.size (some ⟨b, 0, none⟩) [0] := fun _ =>
  ⟨b, 0, rfl, hb, fun k hk => by obtain rfl : k = 0 := by simp at hk; omega
                                 exact hc⟩

end Go.Proofs.Ytdjajpookmmafaa

namespace Go.Proofs.Ytdjajpookmmafaa
open Go.RowKit

/-- The value v is the tree n. -/
def At (w : World) (v : Value) (n : NT) : Prop := ∃ d, NodeAt d w w.heap.size v n
set_option maxRecDepth 4000 in
theorem At.later {w w' : World} {v : Value} {n : NT} (h : At w v n) (hb : Below w.heap.size w w') : At w' v n := by
  obtain ⟨d, h⟩ := h; exact ⟨d, h.later hb⟩
set_option maxRecDepth 4000 in
theorem At.zero (w : World) : At w (.agg #[.bool false, .slice none 0 0, .slice none 0 0, .slice none 0 0]) zeroT := ⟨1, (zero_tree (fun _ => False) 0 w).at_ (fun _ h => h.elim)⟩
set_option maxRecDepth 4000 in
theorem At.val {w : World} {v : Value} {n : NT} (h : At w v n) : ∃ lf PA np pc TA nt tc KA nk kc, v = .agg #[.bool lf, .slice PA np pc, .slice TA nt tc, .slice KA nk kc] := by
  obtain ⟨d, h⟩ := h; exact h.val
set_option maxRecDepth 4000 in
theorem At.of_tree {P : Nat → Prop} {d : Nat} {w : World} {v : Value} {n : NT} (h : TreeP P d w v n) (hP : ∀ b, P b → b < w.heap.size) : At w v n := ⟨d, h.at_ hP⟩
set_option maxRecDepth 4000 in
theorem NewN.open_ {r : NT × Int} {w w' : World} {e : Ending} (h : NewN r w e w') : ∃ lf PA np pc TA nt tc KA nk kc, e = .returned (.tuple #[.agg #[.bool lf, .slice PA np pc, .slice TA nt tc, .slice KA nk kc], .int .i64 r.2]) ∧ At w' (.agg #[.bool lf, .slice PA np pc, .slice TA nt tc, .slice KA nk kc]) r.1 ∧ Below w.heap.size w w' := by
  obtain ⟨v, d, rfl, ht, hb⟩ := h
  have ha := At.of_tree ht (fun b hb => hb.2)
  obtain ⟨lf, PA, np, pc, TA, nt, tc, KA, nk, kc, rfl⟩ := ha.val
  exact ⟨_, _, _, _, _, _, _, _, _, _, rfl, ha, hb⟩
set_option maxRecDepth 4000 in
theorem NewC.open_ {r1 r2 : NT} {er : Int} {w w' : World} {e : Ending} (h : NewC r1 r2 er w e w') : ∃ lf PA np pc TA nt tc KA nk kc lf' PA' np' pc' TA' nt' tc' KA' nk' kc', e = .returned (.tuple #[.agg #[.bool lf, .slice PA np pc, .slice TA nt tc, .slice KA nk kc], .agg #[.bool lf', .slice PA' np' pc', .slice TA' nt' tc', .slice KA' nk' kc'], .int .i64 er]) ∧
    At w' (.agg #[.bool lf, .slice PA np pc, .slice TA nt tc, .slice KA nk kc]) r1 ∧ At w' (.agg #[.bool lf', .slice PA' np' pc', .slice TA' nt' tc', .slice KA' nk' kc']) r2 ∧ Below w.heap.size w w' := by
  obtain ⟨v1, v2, d, rfl, ht1, ht2, hb⟩ := h
  have ha := At.of_tree ht1 (fun b hb => hb.2)
  have hc := At.of_tree ht2 (fun b hb => hb.2)
  obtain ⟨lf, PA, np, pc, TA, nt, tc, KA, nk, kc, rfl⟩ := ha.val
  obtain ⟨lf', PA', np', pc', TA', nt', tc', KA', nk', kc', rfl⟩ := hc.val
  exact ⟨_, _, _, _, _, _, _, _, _, _, _, _, _, _, _, _, _, _, _, _, rfl, ha, hc, hb⟩

/-- Blocks that hold what they held. -/
def Holds (L : List (Nat × Obj)) (w : World) : Prop := ∀ x ∈ L, w.heap[x.1]? = some x.2
set_option maxRecDepth 4000 in
theorem Holds.keep {L : List (Nat × Obj)} {w w' : World} (h : Holds L w) (hb : Below w.heap.size w w') : Holds L w' := fun x hx => keepBlk (h x hx) hb
set_option maxRecDepth 4000 in
theorem Holds.add {L : List (Nat × Obj)} {w : World} (h : Holds L w) (o : Obj) : Holds ((w.heap.size, o) :: L) (w.alloc o) := fun x hx => by
  rcases List.mem_cons.1 hx with rfl | hx
  · exact heap_alloc_new _ _
  · exact keepBlk (h x hx) ((Below.refl _ _).alloc (Nat.le_refl _) _)
set_option maxRecDepth 4000 in
theorem Holds.nil (w : World) : Holds [] w := fun x hx => by cases hx
set_option maxRecDepth 4000 in
theorem Holds.hd {b : Nat} {o : Obj} {L : List (Nat × Obj)} {w : World} (h : Holds ((b, o) :: L) w) : w.heap[b]? = some o := h _ (List.mem_cons_self ..)
set_option maxRecDepth 4000 in
theorem Holds.tl {x : Nat × Obj} {L : List (Nat × Obj)} {w : World} (h : Holds (x :: L) w) : Holds L w := fun y hy => h y (List.mem_cons_of_mem _ hy)

set_option maxRecDepth 4000 in
theorem nsame_at {w : World} {v u : Value} {n m : NT} {r : Bool} (hr : eqT n m = r) (hn : At w v n) (hm : At w u m) : Calls Try.prog 55 #[v, u] w (Still (.bool r) w) := by
  obtain ⟨d, hn⟩ := hn
  obtain ⟨dm, hm⟩ := hm
  subst hr
  exact nsame_any d dm w v u n m hn hm
set_option maxRecDepth 4000 in
theorem rnsame_at {w : World} {v u : Value} {n m : NT} {r : Bool} (hr : eqT n m = r) (hn : At w v n) (hm : At w u m) : Calls Try.prog 24 #[v, u] w (Still (.bool r) w) := by
  obtain ⟨d, hn⟩ := hn
  obtain ⟨dm, hm⟩ := hm
  subst hr
  exact rnsame_any d dm w v u n m hn hm
set_option maxRecDepth 4000 in
theorem NewN.opn {n : NT} {er : Int} {w w' : World} {e : Ending} (h : NewN (n, er) w e w') : ∃ lf PA np pc TA nt tc KA nk kc, e = .returned (.tuple #[.agg #[.bool lf, .slice PA np pc, .slice TA nt tc, .slice KA nk kc], .int .i64 er]) ∧ At w' (.agg #[.bool lf, .slice PA np pc, .slice TA nt tc, .slice KA nk kc]) n ∧ Below w.heap.size w w' := h.open_
set_option maxRecDepth 4000 in
theorem Holds.add2 {L : List (Nat × Obj)} {w : World} (h : Holds L w) (o o' : Obj) : Holds ((w.heap.size + 1, o') :: (w.heap.size, o) :: L) ((w.alloc o).alloc o') := by
  have := (h.add o).add o'
  rwa [show (w.alloc o).heap.size = w.heap.size + 1 by simp] at this
/-- Values that are trees. -/
def Ats (L : List (Value × NT)) (w : World) : Prop := ∀ x ∈ L, At w x.1 x.2
set_option maxRecDepth 4000 in
theorem Ats.nil (w : World) : Ats [] w := fun x hx => by cases hx
set_option maxRecDepth 4000 in
theorem Ats.keep {L : List (Value × NT)} {w w' : World} (h : Ats L w) (hb : Below w.heap.size w w') : Ats L w' := fun x hx => (h x hx).later hb
set_option maxRecDepth 4000 in
theorem Ats.add {L : List (Value × NT)} {w : World} {v : Value} {n : NT} (h : Ats L w) (ht : At w v n) : Ats ((v, n) :: L) w := fun x hx => by
  rcases List.mem_cons.1 hx with rfl | hx
  · exact ht
  · exact h x hx
set_option maxRecDepth 4000 in
theorem Ats.hd {v : Value} {n : NT} {L : List (Value × NT)} {w : World} (h : Ats ((v, n) :: L) w) : At w v n := h _ (List.mem_cons_self ..)
set_option maxRecDepth 4000 in
theorem Ats.tl {x : Value × NT} {L : List (Value × NT)} {w : World} (h : Ats (x :: L) w) : Ats L w := fun y hy => h y (List.mem_cons_of_mem _ hy)
set_option maxRecDepth 4000 in
theorem alloc_below (w : World) (o : Obj) : Below w.heap.size w (w.alloc o) := (Below.refl _ _).alloc (Nat.le_refl _) o
set_option maxRecDepth 4000 in
theorem alloc2_below (w : World) (o o' : Obj) : Below w.heap.size w ((w.alloc o).alloc o') := below_mono2 (Below.refl _ _) (Nat.le_refl _)

/-- Slices that are paths. -/
def Ils (L : List (Option Addr × List Int)) (w : World) : Prop := ∀ x ∈ L, IL w w.heap.size x.1 x.2
set_option maxRecDepth 4000 in
theorem Ils.nil (w : World) : Ils [] w := fun x hx => by cases hx
set_option maxRecDepth 4000 in
theorem Ils.keep {L : List (Option Addr × List Int)} {w w' : World} (h : Ils L w) (hb : Below w.heap.size w w') : Ils L w' := fun x hx => (h x hx).later hb
set_option maxRecDepth 4000 in
theorem Ils.add {L : List (Option Addr × List Int)} {w : World} {A : Option Addr} {l : List Int} (h : Ils L w) (ht : IL w w.heap.size A l) : Ils ((A, l) :: L) w := fun x hx => by
  rcases List.mem_cons.1 hx with rfl | hx
  · exact ht
  · exact h x hx
set_option maxRecDepth 4000 in
theorem Ils.hd {A : Option Addr} {l : List Int} {L : List (Option Addr × List Int)} {w : World} (h : Ils ((A, l) :: L) w) : IL w w.heap.size A l := h _ (List.mem_cons_self ..)
set_option maxRecDepth 4000 in
theorem Ils.tl {x : Option Addr × List Int} {L : List (Option Addr × List Int)} {w : World} (h : Ils (x :: L) w) : Ils L w := fun y hy => h y (List.mem_cons_of_mem _ hy)
set_option maxRecDepth 4000 in
theorem At.full {w : World} {v : Value} {n : NT} {lf : Bool} {nk : Nat} (h : At w v n) (hlf : n.lf = lf) (hnk : n.ks.length = nk) : ∃ PA np pc TA nt tc KA kc, v = .agg #[.bool lf, .slice PA np pc, .slice TA nt tc, .slice KA nk kc] := by
  subst hlf hnk
  obtain ⟨d, h⟩ := h
  obtain ⟨d', lf, ps, tx, ks, PA, pc, TA, tc, KA, kc, _, rfl, e, _⟩ := h.open_
  exact ⟨PA, ps.length, pc, TA, tx.length, tc, KA, kc, e⟩
set_option maxRecDepth 4000 in
theorem NewN.opnF {n : NT} {er : Int} {w w' : World} {e : Ending} {lf : Bool} {nk : Nat} (h : NewN (n, er) w e w') (hlf : n.lf = lf) (hnk : n.ks.length = nk) : ∃ PA np pc TA nt tc KA kc, e = .returned (.tuple #[.agg #[.bool lf, .slice PA np pc, .slice TA nt tc, .slice KA nk kc], .int .i64 er]) ∧ At w' (.agg #[.bool lf, .slice PA np pc, .slice TA nt tc, .slice KA nk kc]) n ∧ Below w.heap.size w w' := by
  obtain ⟨v, d, rfl, ht, hb⟩ := h
  have ha := At.of_tree ht (fun b hb => hb.2)
  obtain ⟨PA, np, pc, TA, nt, tc, KA, kc, rfl⟩ := ha.full hlf hnk
  exact ⟨_, _, _, _, _, _, _, _, rfl, ha, hb⟩
set_option maxRecDepth 4000 in
theorem NewPE.opn {l : List Int} {er : Int} {w w' : World} {e : Ending} (h : NewPE w (l, er) e w') : ∃ A c, e = .returned (.tuple #[.slice A l.length c, .int .i64 er]) ∧ l.length ≤ c ∧ IL w' w'.heap.size A l ∧ Below w.heap.size w w' := by
  obtain ⟨v, rfl, ho, hb⟩ := h
  obtain ⟨A, c, rfl, h1, h2⟩ := ho.open_at l.length rfl
  exact ⟨A, c, rfl, h1, h2, hb⟩
set_option maxRecDepth 4000 in
/-- Paths apart. -/
theorem apart_of {p q : List Int} (h1 : samI p q = false) (h2 : aboveL p q = false) (h3 : aboveL q p = false) : ¬ p <+: q ∧ ¬ q <+: p := by
  have e1 : p ≠ q := fun e => by subst e; unfold samI at h1; simp at h1
  constructor
  · intro h
    rcases Nat.lt_or_ge p.length q.length with g | g
    · rw [(aboveL_iff p q).2 ⟨g, h⟩] at h2; cases h2
    · exact e1 (h.eq_of_length (by have := h.length_le; omega))
  · intro h
    rcases Nat.lt_or_ge q.length p.length with g | g
    · rw [(aboveL_iff q p).2 ⟨g, h⟩] at h3; cases h3
    · exact e1 (h.eq_of_length (by have := h.length_le; omega)).symm

end Go.Proofs.Ytdjajpookmmafaa

namespace Go.Proofs.Ytdjajpookmmafaa
open Go.RowKit

theorem block_of_cell {w : World} {g q : Nat} {u : Value} (h : w.cell? ⟨g, q, none⟩ = some u) : ∃ cur t fr, w.heap[g]? = some (.cells cur t fr) ∧ cur[q]? = some u := by
  unfold World.cell? at h
  cases hb : w.heap[g]? with
  | none => simp [hb] at h
  | some o =>
    cases o <;> simp [hb] at h
    exact ⟨_, _, _, rfl, h⟩
set_option maxRecDepth 4000 in
theorem setCell_any {w : World} {g k : Nat} {x : Value} {cs : Array Value} {t : TypeId} {fr : Nat × Nat} (h : w.heap[g]? = some (.cells cs t fr)) : (w.setCell ⟨g, k, none⟩ x).heap[g]? = some (.cells (cs.setIfInBounds k x) t fr) := by
  have hlt := lt_of_block h
  have h' : w.heap[g] = .cells cs t fr := by simpa [Array.getElem?_eq_getElem hlt] using h
  show (w.heap.modify g _)[g]? = _
  rw [Array.getElem?_eq_getElem (by simpa using hlt), Array.getElem_modify_self, h']
  rfl
set_option maxRecDepth 4000 in
theorem row_set {w : World} {gk q : Nat} {cur : Array Value} {t : TypeId} {fr : Nat × Nat} {c0 c1 c2 c3 : Value} (h : w.heap[gk]? = some (.cells cur t fr)) :
    ((((w.setCell ⟨gk, q, none⟩ c0).setCell ⟨gk, q + 1, none⟩ c1).setCell ⟨gk, q + 2, none⟩ c2).setCell ⟨gk, q + 3, none⟩ c3).heap[gk]? = some (.cells ((((cur.setIfInBounds q c0).setIfInBounds (q + 1) c1).setIfInBounds (q + 2) c2).setIfInBounds (q + 3) c3) t fr) :=
  setCell_any (setCell_any (setCell_any (setCell_any h)))
set_option maxRecDepth 4000 in
theorem row_other {w : World} {gk q b : Nat} {c0 c1 c2 c3 : Value} (h : b ≠ gk) : ((((w.setCell ⟨gk, q, none⟩ c0).setCell ⟨gk, q + 1, none⟩ c1).setCell ⟨gk, q + 2, none⟩ c2).setCell ⟨gk, q + 3, none⟩ c3).heap[b]? = w.heap[b]? := by
  iterate 4 rw [Below.heap_setCell _ _ _ _ (by simpa using h)]
set_option maxRecDepth 4000 in
/-- A tree whose row is its own, with another kid. -/
theorem top_set {lo hi gk d d8 j : Nat} {w : World} {n k : NT} {c0 c1 c2 c3 : Value} {lf : Bool} {PA : Option Addr} {np pc : Nat} {TA : Option Addr} {nt tc nk kc : Nat} (h : TopP (fun b => lo ≤ b ∧ b < hi) d w (.agg #[.bool lf, .slice PA np pc, .slice TA nt tc, .slice (some ⟨gk, 0, none⟩) nk kc]) n) (hj : j < n.ks.length)
    (hk : TreeP (fun b => lo ≤ b ∧ b < hi ∧ b ≠ gk) d8 w (.agg #[c0, c1, c2, c3]) k) :
    ∃ D, TreeP (fun b => lo ≤ b ∧ b < hi) D ((((w.setCell ⟨gk, j * 4, none⟩ c0).setCell ⟨gk, j * 4 + 1, none⟩ c1).setCell ⟨gk, j * 4 + 2, none⟩ c2).setCell ⟨gk, j * 4 + 3, none⟩ c3) (.agg #[.bool lf, .slice PA np pc, .slice TA nt tc, .slice (some ⟨gk, 0, none⟩) nk kc]) (setK n j k) := by
  cases d with
  | zero => exact h.elim
  | succ d =>
  obtain ⟨PA', pc', TA', tc', KA', kc', e, hp, ht, hf, hks⟩ := h
  simp only [Value.agg.injEq, Array.mk.injEq, List.cons.injEq, Value.bool.injEq, Value.slice.injEq, and_true] at e
  obtain ⟨rfl, ⟨rfl, rfl, rfl⟩, ⟨rfl, rfl, rfl⟩, rfl, rfl, rfl⟩ := e
  obtain ⟨m0, hm0⟩ : ∃ m0, n.ks[j]? = some m0 := ⟨_, List.getElem?_eq_getElem hj⟩
  obtain ⟨g0, u0, e0, hg0, _, ⟨a0, a1, a2, a3, _, f0, f1, f2, f3⟩, hz0⟩ := hks j m0 hm0
  injection e0 with e0
  injection e0 with e0
  subst e0
  obtain ⟨cur, t, fr, hblk, hc3⟩ := block_of_cell f3
  have hsz : j * 4 + 3 < cur.size := by have := (Array.getElem?_eq_some_iff.1 hc3).1; omega
  have hW := row_set (q := j * 4) (c0 := c0) (c1 := c1) (c2 := c2) (c3 := c3) hblk
  have ho : ∀ b, b ≠ gk → ((((w.setCell ⟨gk, j * 4, none⟩ c0).setCell ⟨gk, j * 4 + 1, none⟩ c1).setCell ⟨gk, j * 4 + 2, none⟩ c2).setCell ⟨gk, j * 4 + 3, none⟩ c3).heap[b]? = w.heap[b]? := fun b hb => row_other hb
  generalize ((((w.setCell ⟨gk, j * 4, none⟩ c0).setCell ⟨gk, j * 4 + 1, none⟩ c1).setCell ⟨gk, j * 4 + 2, none⟩ c2).setCell ⟨gk, j * 4 + 3, none⟩ c3) = W at *
  have hcell : ∀ q u, ((((cur.setIfInBounds (j * 4) c0).setIfInBounds (j * 4 + 1) c1).setIfInBounds (j * 4 + 2) c2).setIfInBounds (j * 4 + 3) c3)[q]? = some u → W.cell? ⟨gk, q, none⟩ = some u := fun q u hq => by simp [World.cell?, hW, hq]
  have hcell0 : ∀ q u, w.cell? ⟨gk, q, none⟩ = some u → cur[q]? = some u := fun q u hq => by simpa [World.cell?, hblk] using hq
  have hfr : ∀ q, W.frozen? ⟨gk, q, none⟩ = w.frozen? ⟨gk, q, none⟩ := fun q => by simp [World.frozen?, hW, hblk]
  have hK : ∀ p : Addr, ((lo ≤ p.block ∧ p.block < hi) ∧ some p.block ≠ (Value.slice (some ⟨gk, 0, none⟩) 0 0).ownBlock) → W.cell? p = w.cell? p ∧ W.frozen? p = w.frozen? p := fun p hp => by
    have hne : p.block ≠ gk := fun e => hp.2 (by rw [e]; rfl)
    exact ⟨World.cell?_of_block (ho _ hne), World.frozen?_of_block (ho _ hne)⟩
  have hlen : (setK n j k).ks.length = n.ks.length := by rw [setK_ks hj, List.length_set]
  refine ⟨max d d8 + 1, PA, pc, TA, tc, some ⟨gk, 0, none⟩, kc, ?_, hp.keep (fun _ h => h.1) hK, ht.keep (fun _ h => h.1) hK, ?_, fun i m hm => ?_⟩
  · rw [hlen]; rfl
  · rw [hlen]; exact hf
  · rw [setK_ks hj] at hm
    rcases Classical.em (i = j) with e | e
    · subst e
      rw [List.getElem?_set_self hj] at hm
      injection hm with hm
      subst hm
      refine ⟨gk, 0, _, rfl, hg0, (hk.deep (Nat.le_max_right _ _)).keep (fun b hb => ⟨hb.1, hb.2.1⟩) (fun p hp => ⟨World.cell?_of_block (ho _ hp.2.2), World.frozen?_of_block (ho _ hp.2.2)⟩), ⟨c0, c1, c2, c3, rfl, ?_, ?_, ?_, ?_⟩, by rw [Nat.zero_add, hfr]; have := hz0 0 (by omega); exact this⟩
      · rw [Nat.zero_add]; refine hcell _ _ ?_
        rw [Array.getElem?_setIfInBounds_ne (by omega), Array.getElem?_setIfInBounds_ne (by omega), Array.getElem?_setIfInBounds_ne (by omega), Array.getElem?_setIfInBounds_self_of_lt (by omega)]
      · rw [Nat.zero_add]; refine hcell _ _ ?_
        rw [Array.getElem?_setIfInBounds_ne (by omega), Array.getElem?_setIfInBounds_ne (by omega), Array.getElem?_setIfInBounds_self_of_lt (by simp; omega)]
      · rw [Nat.zero_add]; refine hcell _ _ ?_
        rw [Array.getElem?_setIfInBounds_ne (by omega), Array.getElem?_setIfInBounds_self_of_lt (by simp; omega)]
      · rw [Nat.zero_add]; refine hcell _ _ ?_
        rw [Array.getElem?_setIfInBounds_self_of_lt (by simp; omega)]
    · rw [List.getElem?_set_ne (by omega)] at hm
      obtain ⟨g, u, e1, hg, htu, ⟨b0, b1, b2, b3, eu, h0, h1, h2, h3⟩, hz⟩ := hks i m hm
      injection e1 with e1
      injection e1 with e1
      subst e1
      have hk4 : ∀ q x, (q < j * 4 ∨ j * 4 + 3 < q) → w.cell? ⟨gk, q, none⟩ = some x → W.cell? ⟨gk, q, none⟩ = some x := fun q x hq hx => by
        refine hcell _ _ ?_
        rw [Array.getElem?_setIfInBounds_ne (by omega), Array.getElem?_setIfInBounds_ne (by omega), Array.getElem?_setIfInBounds_ne (by omega), Array.getElem?_setIfInBounds_ne (by omega)]
        exact hcell0 _ _ hx
      refine ⟨gk, 0, u, rfl, hg, (htu.deep (Nat.le_max_left _ _)).keep (fun _ h => h.1) hK, ⟨b0, b1, b2, b3, eu, hk4 _ _ (by omega) h0, hk4 _ _ (by omega) h1, hk4 _ _ (by omega) h2, hk4 _ _ (by omega) h3⟩, by rw [Nat.zero_add, hfr]; have := hz 0 (by omega); exact this⟩

set_option maxRecDepth 4000 in
theorem TopP.keep {P Q : Nat → Prop} {w w' : World} (hPQ : ∀ b, P b → Q b) (hk : ∀ p : Addr, P p.block → w'.cell? p = w.cell? p ∧ w'.frozen? p = w.frozen? p) : ∀ {d : Nat} {v : Value} {n : NT}, TopP P d w v n → TopP Q d w' v n
  | 0, _, _, h => h.elim
  | d + 1, v, n, ⟨PA, pc, TA, tc, KA, kc, e, hp, ht, hf, hks⟩ => ⟨PA, pc, TA, tc, KA, kc, e, hp.keep (fun _ h => ⟨hPQ _ h.1, h.2⟩) (fun p hp => hk p hp.1), ht.keep (fun _ h => ⟨hPQ _ h.1, h.2⟩) (fun p hp => hk p hp.1), hf, fun k m hm => by
      obtain ⟨g, u, e1, hg, ht, hc, hz⟩ := hks k m hm
      obtain ⟨c0, c1, c2, c3, eu, h0, h1, h2, h3⟩ := hc
      exact ⟨g, u, e1, hPQ _ hg, ht.keep (fun _ h => ⟨hPQ _ h.1, h.2⟩) (fun p hp => hk p hp.1), ⟨c0, c1, c2, c3, eu, (hk ⟨g, 0 + k * 4, none⟩ hg).1.trans h0, (hk ⟨g, 0 + k * 4 + 1, none⟩ hg).1.trans h1, (hk ⟨g, 0 + k * 4 + 2, none⟩ hg).1.trans h2, (hk ⟨g, 0 + k * 4 + 3, none⟩ hg).1.trans h3⟩, fun i hi => (hk ⟨g, k * 4 + i, none⟩ hg).2.trans (hz i hi)⟩⟩
set_option maxRecDepth 4000 in
/-- A tree that has a kid: its row, written out. -/
theorem TopP.row {P : Nat → Prop} {d : Nat} {w : World} {v : Value} {n : NT} {j : Nat} (h : TopP P d w v n) (hj : j < n.ks.length) : ∃ gk PA pc TA tc kc c0 c1 c2 c3, v = .agg #[.bool n.lf, .slice PA n.ps.length pc, .slice TA n.tx.length tc, .slice (some ⟨gk, 0, none⟩) n.ks.length kc] ∧ P gk ∧
    w.cell? ⟨gk, j * 4, none⟩ = some c0 ∧ w.cell? ⟨gk, j * 4 + 1, none⟩ = some c1 ∧ w.cell? ⟨gk, j * 4 + 2, none⟩ = some c2 ∧ w.cell? ⟨gk, j * 4 + 3, none⟩ = some c3 ∧ (∀ i, i < 4 → w.frozen? ⟨gk, j * 4 + i, none⟩ = false) := by
  cases d with
  | zero => exact h.elim
  | succ d =>
  obtain ⟨PA, pc, TA, tc, KA, kc, e, hp, ht, hf, hks⟩ := h
  obtain ⟨m0, hm0⟩ : ∃ m0, n.ks[j]? = some m0 := ⟨_, List.getElem?_eq_getElem hj⟩
  obtain ⟨g0, u0, rfl, hg0, _, ⟨a0, a1, a2, a3, _, f0, f1, f2, f3⟩, hz⟩ := hks j m0 hm0
  simp only [Nat.zero_add] at f0 f1 f2 f3
  exact ⟨g0, PA, pc, TA, tc, kc, a0, a1, a2, a3, e, hg0, f0, f1, f2, f3, hz⟩


set_option maxRecDepth 4000 in
theorem tight_get : ∀ (n : NT) (p : List Int) (x : NT), TightT n → getO n p = some x → TightT x
  | n, [], x => fun h e => by injection e with e; rw [← e]; exact h
  | n, i :: r, x => fun h e => by
    rw [getO_cons] at e
    cases hk : kidT n i with
    | none => rw [hk] at e; cases e
    | some k =>
      rw [hk] at e
      exact tight_get k r x (h.kid (kid_has hk).2.2) e

set_option maxRecDepth 4000 in
theorem NewN.newO {g : Nat} {r : NT × Int} {w w' : World} {e : Ending} (h : NewN r w e w') (hg : g < w.heap.size) : NewO g r none w e w' := by
  obtain ⟨v, d, h1, h2, h3⟩ := h
  exact ⟨v, d, h1, h2, Off.of_below h3, h3.block g hg⟩
set_option maxRecDepth 4000 in
theorem two_holds (w : World) (o o' : Obj) : Holds [(w.heap.size + 1, o'), (w.heap.size, o)] ((w.alloc o).alloc o') := (Holds.nil w).add2 o o'
set_option maxRecDepth 4000 in
theorem takeI_run (A : Option Addr) (n c k : Nat) (hk : k ≤ c) : ∀ W : World, (Instr.slice 22 (.slice A n c) none (some (.int .i64 (k : Int))) none).run Try.prog W = .ok (.slice A k c) W := fun W => by
  have he : Try.prog.elem 22 = 3 := by kernel_rfl
  have hs : ∀ W, (sizeOf 3).run Try.prog W = .ok 1 W := fun _ => by kernel_rfl
  rw [run_slice_h W 22 A n c (by rw [he]; exact Try.underlying22) .i64 _ (by omega) (by omega), he, hs]
  have e : (A.map fun x => x.add 0) = A := by
    cases A
    · rfl
    · simp [Addr.add]
  simp [Result.andThen, sliced, e]
set_option maxRecDepth 4000 in
theorem At.lf {w : World} {n : NT} {b r : Bool} {PA : Option Addr} {np pc : Nat} {TA : Option Addr} {nt tc : Nat} {KA : Option Addr} {nk kc : Nat} (h : At w (.agg #[.bool b, .slice PA np pc, .slice TA nt tc, .slice KA nk kc]) n) (hr : n.lf = r) : r = b := by
  obtain ⟨_, _, _, _, _, _, _, _, e⟩ := h.full hr rfl
  simp only [Value.agg.injEq, Array.mk.injEq, List.cons.injEq, Value.bool.injEq] at e
  exact e.1.symm
set_option maxRecDepth 4000 in
theorem NewPE.opnL {l : List Int} {lu : Nat} {er : Int} {w w' : World} {e : Ending} (h : NewPE w (l, er) e w') (hlu : l.length = lu) : ∃ A c, e = .returned (.tuple #[.slice A lu c, .int .i64 er]) ∧ lu ≤ c ∧ IL w' w'.heap.size A l ∧ Below w.heap.size w w' := by
  subst hlu; exact h.opn

end Go.Proofs.Ytdjajpookmmafaa

namespace Go.Proofs.Ytdjajpookmmafaa
open Go.RowKit
open Go.WideShapes (add_plain)

/-- The cells of nodes, one behind the other. -/
def flatV (us : List Value) : List Value := us.flatMap fun u => u.cells.toList
set_option maxRecDepth 4000 in
theorem flatV_append (us vs : List Value) : flatV (us ++ vs) = flatV us ++ flatV vs := flat_append us vs
/-- Values that are the trees of a list. -/
structure Vals (d : Nat) (w : World) (B : Nat) (us : List Value) (ks : List NT) : Prop where
  len : us.length = ks.length
  trees : ∀ (j : Nat) (m : NT), ks[j]? = some m → ∃ u, us[j]? = some u ∧ NodeAt d w B u m
set_option maxRecDepth 4000 in
theorem Vals.nil (d : Nat) (w : World) (B : Nat) : Vals d w B [] [] := ⟨rfl, fun j m h => by simp at h⟩
set_option maxRecDepth 4000 in
theorem Vals.one {d : Nat} {w : World} {B : Nat} {u : Value} {m : NT} (h : NodeAt d w B u m) : Vals d w B [u] [m] := ⟨rfl, fun j x hx => by
  cases j with
  | zero =>
    simp only [List.getElem?_cons_zero, Option.some.injEq] at hx
    subst hx
    exact ⟨_, rfl, h⟩
  | succ j => simp at hx⟩
set_option maxRecDepth 4000 in
theorem Vals.append {d : Nat} {w : World} {B : Nat} {us vs : List Value} {ks ms : List NT} (h1 : Vals d w B us ks) (h2 : Vals d w B vs ms) : Vals d w B (us ++ vs) (ks ++ ms) :=
  ⟨by rw [List.length_append, List.length_append, h1.len, h2.len], fun j m hj => by
    rcases Nat.lt_or_ge j ks.length with hjk | hjk
    · rw [List.getElem?_append_left hjk] at hj
      obtain ⟨u, hu, ht⟩ := h1.trees j m hj
      exact ⟨u, by rw [List.getElem?_append_left (by rw [h1.len]; exact hjk)]; exact hu, ht⟩
    · rw [List.getElem?_append_right hjk] at hj
      obtain ⟨u, hu, ht⟩ := h2.trees _ m hj
      exact ⟨u, by rw [List.getElem?_append_right (by rw [h1.len]; exact hjk), h1.len]; exact hu, ht⟩⟩
set_option maxRecDepth 4000 in
theorem Vals.below {d : Nat} {w w' : World} {B : Nat} {us : List Value} {ks : List NT} (h : Vals d w B us ks) (hb : Below B w w') : Vals d w' B us ks := ⟨h.len, fun j m hj => by
  obtain ⟨u, h1, h2⟩ := h.trees j m hj; exact ⟨u, h1, h2.below hb⟩⟩
set_option maxRecDepth 4000 in
theorem Vals.more {d : Nat} {w : World} {B B' : Nat} {us : List Value} {ks : List NT} (h : Vals d w B us ks) (hb : B ≤ B') : Vals d w B' us ks := ⟨h.len, fun j m hj => by
  obtain ⟨u, h1, h2⟩ := h.trees j m hj; exact ⟨u, h1, h2.more hb⟩⟩
set_option maxRecDepth 4000 in
theorem Vals.deep {d d' : Nat} {w : World} {B : Nat} {us : List Value} {ks : List NT} (h : Vals d w B us ks) (hd : d ≤ d') : Vals d' w B us ks := ⟨h.len, fun j m hj => by
  obtain ⟨u, h1, h2⟩ := h.trees j m hj; exact ⟨u, h1, h2.deep hd⟩⟩
set_option maxRecDepth 4000 in
theorem Vals.form {d : Nat} {w : World} {B : Nat} {us : List Value} {ks : List NT} (h : Vals d w B us ks) : ∀ u ∈ us, ∃ lf PA np pc TA nt tc KA nk kc, u = .agg #[.bool lf, .slice PA np pc, .slice TA nt tc, .slice KA nk kc] := fun u hu => by
  obtain ⟨j, hj, rfl⟩ := List.mem_iff_getElem.1 hu
  obtain ⟨u', hu', ht⟩ := h.trees j _ (List.getElem?_eq_getElem (by rw [← h.len]; exact hj))
  rw [List.getElem?_eq_getElem hj] at hu'
  injection hu' with hu'
  rw [hu']
  exact ht.val
set_option maxRecDepth 4000 in
theorem Vals.flat {d : Nat} {w : World} {B : Nat} {us : List Value} {ks : List NT} (h : Vals d w B us ks) : (flatV us).length = ks.length * 4 ∧ ∀ c ∈ flatV us, c.oneCell' = true := by
  have key := h.form
  constructor
  · rw [← h.len]
    have : ∀ l : List Value, (∀ u ∈ l, u.cells.toList.length = 4) → (flatV l).length = l.length * 4 := by
      intro l
      induction l with
      | nil => intro _; rfl
      | cons x r ih => intro hx; show (flatV (x :: r)).length = _; rw [flatV, List.flatMap_cons, List.length_append, hx x (List.mem_cons_self ..), ← flatV, ih (fun u hu => hx u (List.mem_cons_of_mem _ hu)), List.length_cons]; omega
    exact this us fun u hu => by obtain ⟨_, _, _, _, _, _, _, _, _, _, rfl⟩ := key u hu; rfl
  · intro c hc
    obtain ⟨u, hu, hcu⟩ := List.mem_flatMap.1 hc
    obtain ⟨_, _, _, _, _, _, _, _, _, _, rfl⟩ := key u hu
    simp [Value.cells] at hcu
    rcases hcu with rfl | rfl | rfl | rfl <;> rfl
set_option maxRecDepth 4000 in
/-- The Kids in a slice, as values. -/
theorem Kids.vals {d : Nat} {w : World} {B : Nat} {A : Option Addr} {ks : List NT} (h : Kids d w B A ks) : ∃ us, Vals d w B us ks ∧ VL w B A (flatV us) := by
  have hx : ∀ j : Fin ks.length, ∃ u, ∃ b o, A = some ⟨b, o, none⟩ ∧ b < B ∧ NodeAt d w B u ks[j] ∧ Cells4 w b (o + j * 4) u := fun j => by
    obtain ⟨b, o, u, e, hb, hn, hc⟩ := h j ks[j] (List.getElem?_eq_getElem j.2)
    exact ⟨u, b, o, e, hb, hn, hc⟩
  obtain ⟨f, hf⟩ := Classical.axiomOfChoice hx
  have hv : Vals d w B (List.ofFn f) ks := ⟨by simp, fun j m hj => by
    have hl := (List.getElem?_eq_some_iff.1 hj).1
    obtain ⟨b, o, _, _, hn, _⟩ := hf ⟨j, hl⟩
    have e : ks[j] = m := (List.getElem?_eq_some_iff.1 hj).2
    exact ⟨f ⟨j, hl⟩, by rw [List.getElem?_eq_getElem (by simpa using hl), List.getElem_ofFn], by rw [← e]; exact hn⟩⟩
  refine ⟨_, hv, fun hne => ?_⟩
  have hlen := hv.flat.1
  have hpos : 0 < ks.length := by
    have : 0 < (flatV (List.ofFn f)).length := List.length_pos_iff.2 hne
    omega
  obtain ⟨b, o, e, hb, _, _⟩ := hf ⟨0, hpos⟩
  refine ⟨b, o, e, hb, fun q c hq => ?_⟩
  have hql : q < ks.length * 4 := by rw [← hlen]; exact (List.getElem?_eq_some_iff.1 hq).1
  have hj : q / 4 < ks.length := by omega
  obtain ⟨b', o', e', _, hn, c0, c1, c2, c3, eu, h0, h1, h2, h3⟩ := hf ⟨q / 4, hj⟩
  rw [e] at e'
  injection e' with e'
  injection e' with e1 e2
  subst e1 e2
  have h4 : ∀ x ∈ List.ofFn f, x.cells.size = 4 := fun x hx => by obtain ⟨_, _, _, _, _, _, _, _, _, _, rfl⟩ := hv.form x hx; rfl
  have hu : (List.ofFn f)[q / 4]? = some (f ⟨q / 4, hj⟩) := by rw [List.getElem?_eq_getElem (by simpa using hj), List.getElem_ofFn]
  have hc := fun i c hi => cells_at (List.ofFn f) (q / 4) _ c0 c1 c2 c3 h4 hu eu i c hi
  have hq' : (flatV (List.ofFn f))[q / 4 * 4 + q % 4]? = some c := by rw [show q / 4 * 4 + q % 4 = q by omega]; exact hq
  have ho : ∀ i, q % 4 = i → o + q = o + q / 4 * 4 + i := fun i hi => by omega
  match hm : q % 4, Nat.mod_lt q (show 0 < 4 by omega) with
  | 0, _ => rw [hm] at hq'; have := (hc 0 c0 rfl).symm.trans hq'; injection this with this; subst this; rw [ho 0 hm]; exact h0
  | 1, _ => rw [hm] at hq'; have := (hc 1 c1 rfl).symm.trans hq'; injection this with this; subst this; rw [ho 1 hm]; exact h1
  | 2, _ => rw [hm] at hq'; have := (hc 2 c2 rfl).symm.trans hq'; injection this with this; subst this; rw [ho 2 hm]; exact h2
  | 3, _ => rw [hm] at hq'; have := (hc 3 c3 rfl).symm.trans hq'; injection this with this; subst this; rw [ho 3 hm]; exact h3
set_option maxRecDepth 4000 in
/-- A row of the call's own that holds nodes. -/
theorem row_kids {w : World} {base d n c : Nat} {A : Option Addr} {us : List Value} {ks : List NT} (hown : w.ownsRow base 27 4 (.slice A n c) n (flatV us)) (hv : Vals d w w.heap.size us ks) : Kids d w w.heap.size A ks := fun k m hm => by
  obtain ⟨u, hu, ht⟩ := hv.trees k m hm
  obtain ⟨lf, PA, np, pc, TA, nt, tc, KA, nk, kc, e⟩ := hv.form u (List.mem_of_getElem? hu)
  have h4 : ∀ x ∈ us, x.cells.size = 4 := fun x hx => by obtain ⟨_, _, _, _, _, _, _, _, _, _, rfl⟩ := hv.form x hx; rfl
  obtain ⟨A', c', e', _, _, hfree⟩ := own_free hown
  injection e' with e1 _ _
  subst e1
  have hc := fun i c hi => hfree (k * 4 + i) c (cells_at us k u _ _ _ _ h4 hu e i c hi)
  obtain ⟨g, hg, _, hgl, _⟩ := hc 0 _ rfl
  subst hg
  have hc' : ∀ i c, [Value.bool lf, .slice PA np pc, .slice TA nt tc, .slice KA nk kc][i]? = some c → w.cell? ⟨g, 0 + k * 4 + i, none⟩ = some c := fun i c hi => by
    obtain ⟨g', e', _, _, h5, _⟩ := hc i c hi
    injection e' with e'
    injection e' with e'
    subst e'
    rw [Nat.zero_add]; exact h5
  exact ⟨g, 0, u, rfl, hgl, ht, _, _, _, _, e, hc' 0 _ rfl, hc' 1 _ rfl, hc' 2 _ rfl, hc' 3 _ rfl⟩
set_option maxRecDepth 4000 in
/-- The same node with another row of Kids. -/
theorem node_row {d n : Nat} {w : World} {lf : Bool} {ps : List Pr} {tx : List Int} {ks os : List NT} {PA : Option Addr} {pc : Nat} {TA : Option Addr} {tc : Nat} {A : Option Addr} {c kc : Nat} (hp : PL w w.heap.size PA ps) (ht : VL w w.heap.size TA (rv tx)) (hf : FitN ps tx.length ks.length pc tc kc) (hn : os.length = n) (hl : n ≤ 1759218604441) (hc : n ≤ c) (hk : Kids d w w.heap.size A os) :
    NodeAt (d + 1) w w.heap.size (.agg #[.bool lf, .slice PA ps.length pc, .slice TA tx.length tc, .slice A n c]) (.mk lf ps tx os) :=
  NodeAt.shut rfl rfl hn.symm hp ht ⟨hf.1, hf.2.1, hf.2.2.1, by rw [hn]; exact hl, hf.2.2.2.2.1, hf.2.2.2.2.2.1, by rw [hn]; exact hc⟩ hk
set_option maxRecDepth 4000 in
/-- A row that grows is not another block. -/
theorem apart_step {g s : Nat} {o o' : Option Nat} (h : o ≠ some g) (hg : g < s) (hat : o' = o ∨ ∃ q, o' = some q ∧ s ≤ q) : o' ≠ some g := by
  rcases hat with e | ⟨q, e, hq⟩
  · rw [e]; exact h
  · rw [e]; intro e2; injection e2 with e2; omega
set_option maxRecDepth 4000 in
theorem il_cell {w : World} {B b o k : Nat} {p : List Int} (h : IL w B (some ⟨b, o, none⟩) p) (hk : k < p.length) : b < B ∧ w.cell? ⟨b, o + k, none⟩ = some (.int .i64 (iAt p k)) := by
  obtain ⟨b', o', e, hb, hc⟩ := h.at_ hk
  injection e with e
  injection e with e1 e2
  subst e1 e2
  exact ⟨hb, hc⟩

set_option maxRecDepth 4000 in
/-- A list appended to nil. -/
theorem wpList_append_G0 {ts te : TypeId} {size by_ : Nat} (E : ElemG ts te size by_) (W : World) {ops : Array Oper} {rest : List Oper} {o : Oper} {a : Act} {Q : Exit → Act → World → Prop} (hgd : o.guard = none) (s x : Operand)
    (ho : o.op = .call { callee := .builtin .append, args := #[s, x], argTypes := #[ts, ts] })
    (b : Nat) (hs : a.eval s = .slice none 0 0) (A : Option Addr) (m c B : Nat) (l : List Value) (hx : a.eval x = .slice A m c) (hn : l.length = m * size) (hp : VL W B A l) (h1 : ∀ u ∈ l, u.oneCell' = true)
    (h63 : m ≤ maxLen) (hby : m * by_ ≤ 140737488355328) (hb : b ≤ W.heap.size)
    (hK : ∀ A' c' w', w'.ownsRow b te size (.slice A' m c') m l → Below W.heap.size W w' → ((Value.slice A' m c').ownBlock = none ∨ ∃ g, (Value.slice A' m c').ownBlock = some g ∧ W.heap.size ≤ g) → wpList Try.prog ops Q rest (a.put o.dst (.slice A' m c')) w') :
    wpList Try.prog ops Q (o :: rest) a W := by
  refine wpList_append_GX E W hgd s x ho b (.slice none 0 0) 0 [] hs (World.ownsRow_nil _ _ _ _) A m c B l hx hn hp h1 (by rw [Nat.zero_add]; exact h63) (by rw [Nat.zero_add]; exact hby) hb (fun A' c' w' h1 h2 h3 => ?_)
  rw [Nat.zero_add, List.nil_append] at h1
  rw [Nat.zero_add] at h3 ⊢
  exact hK A' c' w' h1 (grown_none h2) h3
set_option maxRecDepth 4000 in
/-- A list appended to a row of the call's own, in a region that draws. -/
theorem step_append_GX {ts te : TypeId} {size by_ : Nat} (E : ElemG ts te size by_) (W : World) {ops : Array Oper} {o : Oper} {a : Act} {K : Act → World → Prop} {Q : Exit → Act → World → Prop} {F : Prop} (hgd : o.guard = none) (s x : Operand)
    (ho : o.op = .call { callee := .builtin .append, args := #[s, x], argTypes := #[ts, ts] })
    (b : Nat) (v : Value) (n : Nat) (k : List Value) (hs : a.eval s = v) (hO : W.ownsRow b te size v n k) (A : Option Addr) (m c B : Nat) (l : List Value) (hx : a.eval x = .slice A m c) (hn : l.length = m * size) (hp : VL W B A l) (h1 : ∀ u ∈ l, u.oneCell' = true)
    (h63 : n + m ≤ maxLen) (hby : (n + m) * by_ ≤ 140737488355328) (hb : b ≤ W.heap.size)
    (hK : ∀ A' c' w', w'.ownsRow b te size (.slice A' (n + m) c') (n + m) (k ++ l) → W.grownBy w' v.ownBlock → ((Value.slice A' (n + m) c').ownBlock = v.ownBlock ∨ ∃ g, (Value.slice A' (n + m) c').ownBlock = some g ∧ W.heap.size ≤ g) → K (a.put o.dst (.slice A' (n + m) c')) w') :
    if Region.wanted o (yielded ops a.tmps) = true then Oper.wp Try.prog o a W K Q else F := by
  have hw : Region.wanted o (yielded ops a.tmps) = true := by simp [Region.wanted, hgd]
  rw [if_pos hw]
  obtain ⟨i0, z, hi, hz0, hz1, hz2, hz3⟩ := E.info
  have hsz := E.pos
  rcases Nat.eq_zero_or_pos m with hm | hm
  · subst hm
    have hl : l = [] := List.eq_nil_of_length_eq_zero (by simpa using hn)
    subst hl
    obtain ⟨A0, c0, rfl, _⟩ := own_free hO
    have hrun := run_append_zeroG (w := W) (ty := o.type) (A := A) (c := c) E.under hi hO
    unfold Oper.wp execOp
    simp only [ho, resolve, invoke, builtin, Sem.run_bind, Sem.run_pure, Result.andThen_ok, List.map_toArray, List.map_cons, List.map_nil, hs, hx, hrun]
    exact hK A0 c0 W (by simpa using hO) ⟨rfl, rfl, rfl, Nat.le_refl _, fun _ _ _ => rfl⟩ (.inl (by cases A0 <;> rfl))
  · have hl : 0 < l.length := by have := Nat.mul_pos hm hsz; omega
    obtain ⟨b', o', rfl, _, hc⟩ := hp (List.length_pos_iff.1 hl)
    refine wp_append_lies W s x ts ho b te i0 z size by_ E.under hi hz0 hz1 hz2 hz3 hsz v n k hs hO ⟨b', o', none⟩ m c l hx hn (fun j u hj => by rw [add_plain]; exact hc j u hj) h1 hm h63 hby hb W.heap.size rfl (fun g cap w' h1 h2 h3 _ => hK _ cap w' h1 h2 ?_)
    rcases h3 with e | e
    · exact .inl (by rw [e]; rfl)
    · exact .inr ⟨g, rfl, by omega⟩
set_option maxRecDepth 4000 in
theorem step_append_G0 {ts te : TypeId} {size by_ : Nat} (E : ElemG ts te size by_) (W : World) {ops : Array Oper} {o : Oper} {a : Act} {K : Act → World → Prop} {Q : Exit → Act → World → Prop} {F : Prop} (hgd : o.guard = none) (s x : Operand)
    (ho : o.op = .call { callee := .builtin .append, args := #[s, x], argTypes := #[ts, ts] })
    (b : Nat) (hs : a.eval s = .slice none 0 0) (A : Option Addr) (m c B : Nat) (l : List Value) (hx : a.eval x = .slice A m c) (hn : l.length = m * size) (hp : VL W B A l) (h1 : ∀ u ∈ l, u.oneCell' = true)
    (h63 : m ≤ maxLen) (hby : m * by_ ≤ 140737488355328) (hb : b ≤ W.heap.size)
    (hK : ∀ A' c' w', w'.ownsRow b te size (.slice A' m c') m l → Below W.heap.size W w' → ((Value.slice A' m c').ownBlock = none ∨ ∃ g, (Value.slice A' m c').ownBlock = some g ∧ W.heap.size ≤ g) → K (a.put o.dst (.slice A' m c')) w') :
    if Region.wanted o (yielded ops a.tmps) = true then Oper.wp Try.prog o a W K Q else F := by
  refine step_append_GX E W hgd s x ho b (.slice none 0 0) 0 [] hs (World.ownsRow_nil _ _ _ _) A m c B l hx hn hp h1 (by rw [Nat.zero_add]; exact h63) (by rw [Nat.zero_add]; exact hby) hb (fun A' c' w' h1 h2 h3 => ?_)
  rw [Nat.zero_add, List.nil_append] at h1
  rw [Nat.zero_add] at h3 ⊢
  exact hK A' c' w' h1 (grown_none h2) h3

end Go.Proofs.Ytdjajpookmmafaa
