/- Trees that stand somewhere in memory, and variables that hold what they held: the calls' contracts, said for laws. -/
import Derived.Test.YtggapngibkeodaaTLive
import Derived.Test.YtggapngibkeodaaIComp
namespace Go.Proofs.Ytggapngibkeodaa
open Go.RowKit

/-- The value v is the tree n. -/
def At (w : World) (v : Value) (n : NT) : Prop := ∃ d, NodeAt d w w.heap.size v n
theorem At.later {w w' : World} {v : Value} {n : NT} (h : At w v n) (hb : Below w.heap.size w w') : At w' v n := by
  obtain ⟨d, h⟩ := h; exact ⟨d, h.later hb⟩
theorem At.zero (w : World) : At w (.agg #[.bool false, .slice none 0 0, .slice none 0 0, .slice none 0 0]) zeroT := ⟨1, (zero_tree (fun _ => False) 0 w).at_ (fun _ h => h.elim)⟩
theorem At.val {w : World} {v : Value} {n : NT} (h : At w v n) : ∃ lf PA np pc TA nt tc KA nk kc, v = .agg #[.bool lf, .slice PA np pc, .slice TA nt tc, .slice KA nk kc] := by
  obtain ⟨d, h⟩ := h; exact h.val
theorem At.of_tree {P : Nat → Prop} {d : Nat} {w : World} {v : Value} {n : NT} (h : TreeP P d w v n) (hP : ∀ b, P b → b < w.heap.size) : At w v n := ⟨d, h.at_ hP⟩
theorem NewN.open_ {r : NT × Int} {w w' : World} {e : Ending} (h : NewN r w e w') : ∃ lf PA np pc TA nt tc KA nk kc, e = .returned (.tuple #[.agg #[.bool lf, .slice PA np pc, .slice TA nt tc, .slice KA nk kc], .int .i64 r.2]) ∧ At w' (.agg #[.bool lf, .slice PA np pc, .slice TA nt tc, .slice KA nk kc]) r.1 ∧ Below w.heap.size w w' := by
  obtain ⟨v, d, rfl, ht, hb⟩ := h
  have ha := At.of_tree ht (fun b hb => hb.2)
  obtain ⟨lf, PA, np, pc, TA, nt, tc, KA, nk, kc, rfl⟩ := ha.val
  exact ⟨_, _, _, _, _, _, _, _, _, _, rfl, ha, hb⟩
theorem NewC.open_ {r1 r2 : NT} {er : Int} {w w' : World} {e : Ending} (h : NewC r1 r2 er w e w') : ∃ lf PA np pc TA nt tc KA nk kc lf' PA' np' pc' TA' nt' tc' KA' nk' kc', e = .returned (.tuple #[.agg #[.bool lf, .slice PA np pc, .slice TA nt tc, .slice KA nk kc], .agg #[.bool lf', .slice PA' np' pc', .slice TA' nt' tc', .slice KA' nk' kc'], .int .i64 er]) ∧
    At w' (.agg #[.bool lf, .slice PA np pc, .slice TA nt tc, .slice KA nk kc]) r1 ∧ At w' (.agg #[.bool lf', .slice PA' np' pc', .slice TA' nt' tc', .slice KA' nk' kc']) r2 ∧ Below w.heap.size w w' := by
  obtain ⟨v1, v2, d, rfl, ht1, ht2, hb⟩ := h
  have ha := At.of_tree ht1 (fun b hb => hb.2)
  have hc := At.of_tree ht2 (fun b hb => hb.2)
  obtain ⟨lf, PA, np, pc, TA, nt, tc, KA, nk, kc, rfl⟩ := ha.val
  obtain ⟨lf', PA', np', pc', TA', nt', tc', KA', nk', kc', rfl⟩ := hc.val
  exact ⟨_, _, _, _, _, _, _, _, _, _, _, _, _, _, _, _, _, _, _, _, rfl, ha, hc, hb⟩

/-- Blocks that hold what they held. -/
def Holds (L : List (Nat × Obj)) (w : World) : Prop := ∀ x ∈ L, w.heap[x.1]? = some x.2
theorem Holds.keep {L : List (Nat × Obj)} {w w' : World} (h : Holds L w) (hb : Below w.heap.size w w') : Holds L w' := fun x hx => keepBlk (h x hx) hb
theorem Holds.add {L : List (Nat × Obj)} {w : World} (h : Holds L w) (o : Obj) : Holds ((w.heap.size, o) :: L) (w.alloc o) := fun x hx => by
  rcases List.mem_cons.1 hx with rfl | hx
  · exact heap_alloc_new _ _
  · exact keepBlk (h x hx) ((Below.refl _ _).alloc (Nat.le_refl _) _)
theorem Holds.nil (w : World) : Holds [] w := fun x hx => by cases hx
theorem Holds.hd {b : Nat} {o : Obj} {L : List (Nat × Obj)} {w : World} (h : Holds ((b, o) :: L) w) : w.heap[b]? = some o := h _ (List.mem_cons_self ..)
theorem Holds.tl {x : Nat × Obj} {L : List (Nat × Obj)} {w : World} (h : Holds (x :: L) w) : Holds L w := fun y hy => h y (List.mem_cons_of_mem _ hy)

theorem get_at {w : World} {v : Value} {n : NT} {A : Option Addr} {p : List Int} {c : Nat} (hl : p.length ≤ 1000) (hn : At w v n) (hp : IL w w.heap.size A p) : Calls Try.prog 12 #[v, .slice A p.length c] w (NewN (getE n p) w) := by
  obtain ⟨d, hn⟩ := hn
  exact tget_any d w v n A p p.length c rfl (by omega) hn hp
theorem rget_at {w : World} {v : Value} {n : NT} {A : Option Addr} {p : List Int} {c : Nat} (hl : p.length ≤ 1000) (hn : At w v n) (hp : IL w w.heap.size A p) : Calls Try.prog 13 #[v, .slice A p.length c] w (NewN (getE n p) w) := by
  obtain ⟨d, hn⟩ := hn
  exact rtget_any d w v n A p p.length c rfl (by omega) hn hp
theorem put_at {w : World} {v u : Value} {n m : NT} {A : Option Addr} {p : List Int} {c : Nat} (hl : p.length ≤ 1000) (hc : p.length ≤ c) (hn : At w v n) (hm : At w u m) (hp : IL w w.heap.size A p) : Calls Try.prog 14 #[v, .slice A p.length c, u] w (NewN (putE n p m) w) := by
  obtain ⟨d, hn⟩ := hn
  obtain ⟨dm, hm⟩ := hm
  exact tput_any d dm w v u n m A p p.length c rfl (by omega) hc hn hm hp
theorem add_at {w : World} {v u : Value} {n m : NT} {A : Option Addr} {p : List Int} {c : Nat} (hl : p.length ≤ 1000) (hc : p.length ≤ c) (hn : At w v n) (hm : At w u m) (hp : IL w w.heap.size A p) (hbd : ∀ x, getO n (upP p) = some x → x.ks.length < 1759218604441) : Calls Try.prog 16 #[v, .slice A p.length c, u] w (NewN (addE n p m) w) := by
  obtain ⟨d, hn⟩ := hn
  obtain ⟨dm, hm⟩ := hm
  exact tadd_any d dm w v u n m A p p.length c rfl hl hc hn hm hp hbd
theorem cut_at {w : World} {v : Value} {n : NT} {A : Option Addr} {p : List Int} {c : Nat} (hl : p.length ≤ 1000) (hc : p.length ≤ c) (hn : At w v n) (hp : IL w w.heap.size A p) : Calls Try.prog 18 #[v, .slice A p.length c] w (NewC (cutE n p).1 (cutM n p) (cutE n p).2 w) := by
  obtain ⟨d, hn⟩ := hn
  exact tcut_any d w v n A p p.length c rfl hl hc hn hp
theorem nsame_at {w : World} {v u : Value} {n m : NT} {r : Bool} (hr : eqT n m = r) (hn : At w v n) (hm : At w u m) : Calls Try.prog 27 #[v, u] w (Still (.bool r) w) := by
  obtain ⟨d, hn⟩ := hn
  obtain ⟨dm, hm⟩ := hm
  subst hr
  exact nsame_any d dm w v u n m hn hm
theorem rnsame_at {w : World} {v u : Value} {n m : NT} {r : Bool} (hr : eqT n m = r) (hn : At w v n) (hm : At w u m) : Calls Try.prog 20 #[v, u] w (Still (.bool r) w) := by
  obtain ⟨d, hn⟩ := hn
  obtain ⟨dm, hm⟩ := hm
  subst hr
  exact rnsame_any d dm w v u n m hn hm
theorem few_at {w : World} {v u : Value} {n m : NT} {A : Option Addr} {lp c : Nat} {r : Bool} (hr : (fewB 100 n && fewB 60 m && decide (lp ≤ 50)) = r) (hl : lp ≤ 9223372036854775807) (hn : At w v n) (hm : At w u m) : Calls Try.prog 10 #[v, u, .slice A lp c] w (Still (.bool r) w) := by
  obtain ⟨d, hn⟩ := hn
  obtain ⟨dm, hm⟩ := hm
  exact few5_any d dm w v u n m A lp c r hr hl hn hm
theorem size_at {w : World} {v : Value} {n : NT} {z : Int} (hz : wrap64 (sizeT n) = z) (hn : At w v n) : Calls Try.prog 31 #[v] w (Still (.int .i64 z) w) := by
  obtain ⟨d, hn⟩ := hn
  subst hz
  exact size_any d w v n hn
theorem rcopy_at {w : World} {v : Value} {n : NT} (hn : At w v n) : Calls Try.prog 11 #[v] w fun e w' => ∃ lf PA np pc TA nt tc KA nk kc, e = .returned (.agg #[.bool lf, .slice PA np pc, .slice TA nt tc, .slice KA nk kc]) ∧ At w' (.agg #[.bool lf, .slice PA np pc, .slice TA nt tc, .slice KA nk kc]) n ∧ Below w.heap.size w w' := by
  obtain ⟨d, hn⟩ := hn
  refine (rncopy_any d w v n hn).mono fun e w' h => ?_
  obtain ⟨v', rfl, ht, hb⟩ := h.copied
  have ha := At.of_tree ht (fun b hb => hb.2)
  obtain ⟨lf, PA, np, pc, TA, nt, tc, KA, nk, kc, rfl⟩ := ha.val
  exact ⟨_, _, _, _, _, _, _, _, _, _, rfl, ha, hb⟩

theorem NewN.opn {n : NT} {er : Int} {w w' : World} {e : Ending} (h : NewN (n, er) w e w') : ∃ lf PA np pc TA nt tc KA nk kc, e = .returned (.tuple #[.agg #[.bool lf, .slice PA np pc, .slice TA nt tc, .slice KA nk kc], .int .i64 er]) ∧ At w' (.agg #[.bool lf, .slice PA np pc, .slice TA nt tc, .slice KA nk kc]) n ∧ Below w.heap.size w w' := h.open_
theorem get_is {w : World} {v : Value} {n x : NT} {er : Int} {A : Option Addr} {p : List Int} {c : Nat} (hr : getE n p = (x, er)) (hl : p.length ≤ 1000) (hn : At w v n) (hp : IL w w.heap.size A p) : Calls Try.prog 12 #[v, .slice A p.length c] w (NewN (x, er) w) := hr ▸ get_at hl hn hp
theorem rget_is {w : World} {v : Value} {n x : NT} {er : Int} {A : Option Addr} {p : List Int} {c : Nat} (hr : getE n p = (x, er)) (hl : p.length ≤ 1000) (hn : At w v n) (hp : IL w w.heap.size A p) : Calls Try.prog 13 #[v, .slice A p.length c] w (NewN (x, er) w) := hr ▸ rget_at hl hn hp
theorem put_is {w : World} {v u : Value} {n m x : NT} {er : Int} {A : Option Addr} {p : List Int} {c : Nat} (hr : putE n p m = (x, er)) (hl : p.length ≤ 1000) (hc : p.length ≤ c) (hn : At w v n) (hm : At w u m) (hp : IL w w.heap.size A p) : Calls Try.prog 14 #[v, .slice A p.length c, u] w (NewN (x, er) w) := hr ▸ put_at hl hc hn hm hp
theorem add_is {w : World} {v u : Value} {n m x : NT} {er : Int} {A : Option Addr} {p : List Int} {c : Nat} (hr : addE n p m = (x, er)) (hl : p.length ≤ 1000) (hc : p.length ≤ c) (hn : At w v n) (hm : At w u m) (hp : IL w w.heap.size A p) (hbd : ∀ x, getO n (upP p) = some x → x.ks.length < 1759218604441) : Calls Try.prog 16 #[v, .slice A p.length c, u] w (NewN (x, er) w) := hr ▸ add_at hl hc hn hm hp hbd
theorem cut_is {w : World} {v : Value} {n x y : NT} {er : Int} {A : Option Addr} {p : List Int} {c : Nat} (hr : cutE n p = (x, er)) (hy : cutM n p = y) (hl : p.length ≤ 1000) (hc : p.length ≤ c) (hn : At w v n) (hp : IL w w.heap.size A p) : Calls Try.prog 18 #[v, .slice A p.length c] w (NewC x y er w) := by
  have h := cut_at (c := c) hl hc hn hp
  rw [hr, hy] at h
  exact h

theorem Holds.add2 {L : List (Nat × Obj)} {w : World} (h : Holds L w) (o o' : Obj) : Holds ((w.heap.size + 1, o') :: (w.heap.size, o) :: L) ((w.alloc o).alloc o') := by
  have := (h.add o).add o'
  rwa [show (w.alloc o).heap.size = w.heap.size + 1 by simp] at this
/-- Values that are trees. -/
def Ats (L : List (Value × NT)) (w : World) : Prop := ∀ x ∈ L, At w x.1 x.2
theorem Ats.nil (w : World) : Ats [] w := fun x hx => by cases hx
theorem Ats.keep {L : List (Value × NT)} {w w' : World} (h : Ats L w) (hb : Below w.heap.size w w') : Ats L w' := fun x hx => (h x hx).later hb
theorem Ats.add {L : List (Value × NT)} {w : World} {v : Value} {n : NT} (h : Ats L w) (ht : At w v n) : Ats ((v, n) :: L) w := fun x hx => by
  rcases List.mem_cons.1 hx with rfl | hx
  · exact ht
  · exact h x hx
theorem Ats.hd {v : Value} {n : NT} {L : List (Value × NT)} {w : World} (h : Ats ((v, n) :: L) w) : At w v n := h _ (List.mem_cons_self ..)
theorem Ats.tl {x : Value × NT} {L : List (Value × NT)} {w : World} (h : Ats (x :: L) w) : Ats L w := fun y hy => h y (List.mem_cons_of_mem _ hy)
theorem alloc_below (w : World) (o : Obj) : Below w.heap.size w (w.alloc o) := (Below.refl _ _).alloc (Nat.le_refl _) o
theorem alloc2_below (w : World) (o o' : Obj) : Below w.heap.size w ((w.alloc o).alloc o') := below_mono2 (Below.refl _ _) (Nat.le_refl _)

/-- Slices that are paths. -/
def Ils (L : List (Option Addr × List Int)) (w : World) : Prop := ∀ x ∈ L, IL w w.heap.size x.1 x.2
theorem Ils.nil (w : World) : Ils [] w := fun x hx => by cases hx
theorem Ils.keep {L : List (Option Addr × List Int)} {w w' : World} (h : Ils L w) (hb : Below w.heap.size w w') : Ils L w' := fun x hx => (h x hx).later hb
theorem Ils.add {L : List (Option Addr × List Int)} {w : World} {A : Option Addr} {l : List Int} (h : Ils L w) (ht : IL w w.heap.size A l) : Ils ((A, l) :: L) w := fun x hx => by
  rcases List.mem_cons.1 hx with rfl | hx
  · exact ht
  · exact h x hx
theorem Ils.hd {A : Option Addr} {l : List Int} {L : List (Option Addr × List Int)} {w : World} (h : Ils ((A, l) :: L) w) : IL w w.heap.size A l := h _ (List.mem_cons_self ..)
theorem Ils.tl {x : Option Addr × List Int} {L : List (Option Addr × List Int)} {w : World} (h : Ils (x :: L) w) : Ils L w := fun y hy => h y (List.mem_cons_of_mem _ hy)
theorem At.full {w : World} {v : Value} {n : NT} {lf : Bool} {nk : Nat} (h : At w v n) (hlf : n.lf = lf) (hnk : n.ks.length = nk) : ∃ PA np pc TA nt tc KA kc, v = .agg #[.bool lf, .slice PA np pc, .slice TA nt tc, .slice KA nk kc] := by
  subst hlf hnk
  obtain ⟨d, h⟩ := h
  obtain ⟨d', lf, ps, tx, ks, PA, pc, TA, tc, KA, kc, _, rfl, e, _⟩ := h.open_
  exact ⟨PA, ps.length, pc, TA, tx.length, tc, KA, kc, e⟩
theorem NewN.opnF {n : NT} {er : Int} {w w' : World} {e : Ending} {lf : Bool} {nk : Nat} (h : NewN (n, er) w e w') (hlf : n.lf = lf) (hnk : n.ks.length = nk) : ∃ PA np pc TA nt tc KA kc, e = .returned (.tuple #[.agg #[.bool lf, .slice PA np pc, .slice TA nt tc, .slice KA nk kc], .int .i64 er]) ∧ At w' (.agg #[.bool lf, .slice PA np pc, .slice TA nt tc, .slice KA nk kc]) n ∧ Below w.heap.size w w' := by
  obtain ⟨v, d, rfl, ht, hb⟩ := h
  have ha := At.of_tree ht (fun b hb => hb.2)
  obtain ⟨PA, np, pc, TA, nt, tc, KA, kc, rfl⟩ := ha.full hlf hnk
  exact ⟨_, _, _, _, _, _, _, _, rfl, ha, hb⟩
theorem NewPE.opn {l : List Int} {er : Int} {w w' : World} {e : Ending} (h : NewPE w (l, er) e w') : ∃ A c, e = .returned (.tuple #[.slice A l.length c, .int .i64 er]) ∧ l.length ≤ c ∧ IL w' w'.heap.size A l ∧ Below w.heap.size w w' := by
  obtain ⟨v, rfl, ho, hb⟩ := h
  obtain ⟨A, c, rfl, h1, h2⟩ := ho.open_at l.length rfl
  exact ⟨A, c, rfl, h1, h2, hb⟩
theorem par_is {w : World} {A : Option Addr} {p l : List Int} {er : Int} {c : Nat} (hr : parentL p = (l, er)) (hl : p.length ≤ 1000) (hc : p.length ≤ c) (hp : IL w w.heap.size A p) : Calls Try.prog 33 #[.slice A p.length c] w (NewPE w (l, er)) := hr ▸ parent_any A p p.length c w rfl hl hc hp
theorem rpar_is {w : World} {A : Option Addr} {p l : List Int} {er : Int} {c : Nat} (hr : parentL p = (l, er)) (hl : p.length ≤ 1000) (hc : p.length ≤ c) (hp : IL w w.heap.size A p) : Calls Try.prog 43 #[.slice A p.length c] w (NewPE w (l, er)) := hr ▸ rparent_any A p p.length c w rfl hl hc hp

/-- Paths apart. -/
theorem apart_of {p q : List Int} (h1 : samI p q = false) (h2 : aboveL p q = false) (h3 : aboveL q p = false) : ¬ p <+: q ∧ ¬ q <+: p := by
  have e1 : p ≠ q := fun e => by subst e; unfold samI at h1; simp at h1
  constructor
  · intro h
    rcases Nat.lt_or_ge p.length q.length with g | g
    · rw [(aboveL_iff p q).2 ⟨g, h⟩] at h2; cases h2
    · exact e1 (h.eq_of_length (by have := h.length_le; omega))
  · intro h
    rcases Nat.lt_or_ge q.length p.length with g | g
    · rw [(aboveL_iff q p).2 ⟨g, h⟩] at h3; cases h3
    · exact e1 (h.eq_of_length (by have := h.length_le; omega)).symm

end Go.Proofs.Ytggapngibkeodaa
