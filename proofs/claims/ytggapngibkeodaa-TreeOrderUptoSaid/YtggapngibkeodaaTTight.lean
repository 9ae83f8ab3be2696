/- Trees at paths: bounds, a tree whose row is its own with another kid, and the calls' contracts with lengths as letters. -/
import Derived.Test.YtggapngibkeodaaTAt
namespace Go.Proofs.Ytggapngibkeodaa
open Go.RowKit

theorem block_of_cell {w : World} {g q : Nat} {u : Value} (h : w.cell? ⟨g, q, none⟩ = some u) : ∃ cur t fr, w.heap[g]? = some (.cells cur t fr) ∧ cur[q]? = some u := by
  unfold World.cell? at h
  cases hb : w.heap[g]? with
  | none => simp [hb] at h
  | some o =>
    cases o <;> simp [hb] at h
    exact ⟨_, _, _, rfl, h⟩
theorem setCell_any {w : World} {g k : Nat} {x : Value} {cs : Array Value} {t : TypeId} {fr : Nat × Nat} (h : w.heap[g]? = some (.cells cs t fr)) : (w.setCell ⟨g, k, none⟩ x).heap[g]? = some (.cells (cs.setIfInBounds k x) t fr) := by
  have hlt := lt_of_block h
  have h' : w.heap[g] = .cells cs t fr := by simpa [Array.getElem?_eq_getElem hlt] using h
  show (w.heap.modify g _)[g]? = _
  rw [Array.getElem?_eq_getElem (by simpa using hlt), Array.getElem_modify_self, h']
  rfl
theorem row_set {w : World} {gk q : Nat} {cur : Array Value} {t : TypeId} {fr : Nat × Nat} {c0 c1 c2 c3 : Value} (h : w.heap[gk]? = some (.cells cur t fr)) :
    ((((w.setCell ⟨gk, q, none⟩ c0).setCell ⟨gk, q + 1, none⟩ c1).setCell ⟨gk, q + 2, none⟩ c2).setCell ⟨gk, q + 3, none⟩ c3).heap[gk]? = some (.cells ((((cur.setIfInBounds q c0).setIfInBounds (q + 1) c1).setIfInBounds (q + 2) c2).setIfInBounds (q + 3) c3) t fr) :=
  setCell_any (setCell_any (setCell_any (setCell_any h)))
theorem row_other {w : World} {gk q b : Nat} {c0 c1 c2 c3 : Value} (h : b ≠ gk) : ((((w.setCell ⟨gk, q, none⟩ c0).setCell ⟨gk, q + 1, none⟩ c1).setCell ⟨gk, q + 2, none⟩ c2).setCell ⟨gk, q + 3, none⟩ c3).heap[b]? = w.heap[b]? := by
  iterate 4 rw [Below.heap_setCell _ _ _ _ (by simpa using h)]
/-- A tree whose row is its own, with another kid. -/
theorem top_set {lo hi gk d d8 j : Nat} {w : World} {n k : NT} {c0 c1 c2 c3 : Value} {lf : Bool} {PA : Option Addr} {np pc : Nat} {TA : Option Addr} {nt tc nk kc : Nat} (h : TopP (fun b => lo ≤ b ∧ b < hi) d w (.agg #[.bool lf, .slice PA np pc, .slice TA nt tc, .slice (some ⟨gk, 0, none⟩) nk kc]) n) (hj : j < n.ks.length)
    (hk : TreeP (fun b => lo ≤ b ∧ b < hi ∧ b ≠ gk) d8 w (.agg #[c0, c1, c2, c3]) k) :
    ∃ D, TreeP (fun b => lo ≤ b ∧ b < hi) D ((((w.setCell ⟨gk, j * 4, none⟩ c0).setCell ⟨gk, j * 4 + 1, none⟩ c1).setCell ⟨gk, j * 4 + 2, none⟩ c2).setCell ⟨gk, j * 4 + 3, none⟩ c3) (.agg #[.bool lf, .slice PA np pc, .slice TA nt tc, .slice (some ⟨gk, 0, none⟩) nk kc]) (setK n j k) := by
  cases d with
  | zero => exact h.elim
  | succ d =>
  obtain ⟨PA', pc', TA', tc', KA', kc', e, hp, ht, hf, hks⟩ := h
  simp only [Value.agg.injEq, Array.mk.injEq, List.cons.injEq, Value.bool.injEq, Value.slice.injEq, and_true] at e
  obtain ⟨rfl, ⟨rfl, rfl, rfl⟩, ⟨rfl, rfl, rfl⟩, rfl, rfl, rfl⟩ := e
  obtain ⟨m0, hm0⟩ : ∃ m0, n.ks[j]? = some m0 := ⟨_, List.getElem?_eq_getElem hj⟩
  obtain ⟨g0, u0, e0, hg0, _, ⟨a0, a1, a2, a3, _, f0, f1, f2, f3⟩, hz0⟩ := hks j m0 hm0
  injection e0 with e0
  injection e0 with e0
  subst e0
  obtain ⟨cur, t, fr, hblk, hc3⟩ := block_of_cell f3
  have hsz : j * 4 + 3 < cur.size := by have := (Array.getElem?_eq_some_iff.1 hc3).1; omega
  have hW := row_set (q := j * 4) (c0 := c0) (c1 := c1) (c2 := c2) (c3 := c3) hblk
  have ho : ∀ b, b ≠ gk → ((((w.setCell ⟨gk, j * 4, none⟩ c0).setCell ⟨gk, j * 4 + 1, none⟩ c1).setCell ⟨gk, j * 4 + 2, none⟩ c2).setCell ⟨gk, j * 4 + 3, none⟩ c3).heap[b]? = w.heap[b]? := fun b hb => row_other hb
  generalize ((((w.setCell ⟨gk, j * 4, none⟩ c0).setCell ⟨gk, j * 4 + 1, none⟩ c1).setCell ⟨gk, j * 4 + 2, none⟩ c2).setCell ⟨gk, j * 4 + 3, none⟩ c3) = W at *
  have hcell : ∀ q u, ((((cur.setIfInBounds (j * 4) c0).setIfInBounds (j * 4 + 1) c1).setIfInBounds (j * 4 + 2) c2).setIfInBounds (j * 4 + 3) c3)[q]? = some u → W.cell? ⟨gk, q, none⟩ = some u := fun q u hq => by simp [World.cell?, hW, hq]
  have hcell0 : ∀ q u, w.cell? ⟨gk, q, none⟩ = some u → cur[q]? = some u := fun q u hq => by simpa [World.cell?, hblk] using hq
  have hfr : ∀ q, W.frozen? ⟨gk, q, none⟩ = w.frozen? ⟨gk, q, none⟩ := fun q => by simp [World.frozen?, hW, hblk]
  have hK : ∀ p : Addr, ((lo ≤ p.block ∧ p.block < hi) ∧ some p.block ≠ (Value.slice (some ⟨gk, 0, none⟩) 0 0).ownBlock) → W.cell? p = w.cell? p ∧ W.frozen? p = w.frozen? p := fun p hp => by
    have hne : p.block ≠ gk := fun e => hp.2 (by rw [e]; rfl)
    exact ⟨World.cell?_of_block (ho _ hne), World.frozen?_of_block (ho _ hne)⟩
  have hlen : (setK n j k).ks.length = n.ks.length := by rw [setK_ks hj, List.length_set]
  refine ⟨max d d8 + 1, PA, pc, TA, tc, some ⟨gk, 0, none⟩, kc, ?_, hp.keep (fun _ h => h.1) hK, ht.keep (fun _ h => h.1) hK, ?_, fun i m hm => ?_⟩
  · rw [hlen]; rfl
  · rw [hlen]; exact hf
  · rw [setK_ks hj] at hm
    rcases Classical.em (i = j) with e | e
    · subst e
      rw [List.getElem?_set_self hj] at hm
      injection hm with hm
      subst hm
      refine ⟨gk, 0, _, rfl, hg0, (hk.deep (Nat.le_max_right _ _)).keep (fun b hb => ⟨hb.1, hb.2.1⟩) (fun p hp => ⟨World.cell?_of_block (ho _ hp.2.2), World.frozen?_of_block (ho _ hp.2.2)⟩), ⟨c0, c1, c2, c3, rfl, ?_, ?_, ?_, ?_⟩, by rw [Nat.zero_add, hfr]; have := hz0 0 (by omega); exact this⟩
      · rw [Nat.zero_add]; refine hcell _ _ ?_
        rw [Array.getElem?_setIfInBounds_ne (by omega), Array.getElem?_setIfInBounds_ne (by omega), Array.getElem?_setIfInBounds_ne (by omega), Array.getElem?_setIfInBounds_self_of_lt (by omega)]
      · rw [Nat.zero_add]; refine hcell _ _ ?_
        rw [Array.getElem?_setIfInBounds_ne (by omega), Array.getElem?_setIfInBounds_ne (by omega), Array.getElem?_setIfInBounds_self_of_lt (by simp; omega)]
      · rw [Nat.zero_add]; refine hcell _ _ ?_
        rw [Array.getElem?_setIfInBounds_ne (by omega), Array.getElem?_setIfInBounds_self_of_lt (by simp; omega)]
      · rw [Nat.zero_add]; refine hcell _ _ ?_
        rw [Array.getElem?_setIfInBounds_self_of_lt (by simp; omega)]
    · rw [List.getElem?_set_ne (by omega)] at hm
      obtain ⟨g, u, e1, hg, htu, ⟨b0, b1, b2, b3, eu, h0, h1, h2, h3⟩, hz⟩ := hks i m hm
      injection e1 with e1
      injection e1 with e1
      subst e1
      have hk4 : ∀ q x, (q < j * 4 ∨ j * 4 + 3 < q) → w.cell? ⟨gk, q, none⟩ = some x → W.cell? ⟨gk, q, none⟩ = some x := fun q x hq hx => by
        refine hcell _ _ ?_
        rw [Array.getElem?_setIfInBounds_ne (by omega), Array.getElem?_setIfInBounds_ne (by omega), Array.getElem?_setIfInBounds_ne (by omega), Array.getElem?_setIfInBounds_ne (by omega)]
        exact hcell0 _ _ hx
      refine ⟨gk, 0, u, rfl, hg, (htu.deep (Nat.le_max_left _ _)).keep (fun _ h => h.1) hK, ⟨b0, b1, b2, b3, eu, hk4 _ _ (by omega) h0, hk4 _ _ (by omega) h1, hk4 _ _ (by omega) h2, hk4 _ _ (by omega) h3⟩, by rw [Nat.zero_add, hfr]; have := hz 0 (by omega); exact this⟩

theorem TopP.keep {P Q : Nat → Prop} {w w' : World} (hPQ : ∀ b, P b → Q b) (hk : ∀ p : Addr, P p.block → w'.cell? p = w.cell? p ∧ w'.frozen? p = w.frozen? p) : ∀ {d : Nat} {v : Value} {n : NT}, TopP P d w v n → TopP Q d w' v n
  | 0, _, _, h => h.elim
  | d + 1, v, n, ⟨PA, pc, TA, tc, KA, kc, e, hp, ht, hf, hks⟩ => ⟨PA, pc, TA, tc, KA, kc, e, hp.keep (fun _ h => ⟨hPQ _ h.1, h.2⟩) (fun p hp => hk p hp.1), ht.keep (fun _ h => ⟨hPQ _ h.1, h.2⟩) (fun p hp => hk p hp.1), hf, fun k m hm => by
      obtain ⟨g, u, e1, hg, ht, hc, hz⟩ := hks k m hm
      obtain ⟨c0, c1, c2, c3, eu, h0, h1, h2, h3⟩ := hc
      exact ⟨g, u, e1, hPQ _ hg, ht.keep (fun _ h => ⟨hPQ _ h.1, h.2⟩) (fun p hp => hk p hp.1), ⟨c0, c1, c2, c3, eu, (hk ⟨g, 0 + k * 4, none⟩ hg).1.trans h0, (hk ⟨g, 0 + k * 4 + 1, none⟩ hg).1.trans h1, (hk ⟨g, 0 + k * 4 + 2, none⟩ hg).1.trans h2, (hk ⟨g, 0 + k * 4 + 3, none⟩ hg).1.trans h3⟩, fun i hi => (hk ⟨g, k * 4 + i, none⟩ hg).2.trans (hz i hi)⟩⟩
/-- A tree that has a kid: its row, written out. -/
theorem TopP.row {P : Nat → Prop} {d : Nat} {w : World} {v : Value} {n : NT} {j : Nat} (h : TopP P d w v n) (hj : j < n.ks.length) : ∃ gk PA pc TA tc kc c0 c1 c2 c3, v = .agg #[.bool n.lf, .slice PA n.ps.length pc, .slice TA n.tx.length tc, .slice (some ⟨gk, 0, none⟩) n.ks.length kc] ∧ P gk ∧
    w.cell? ⟨gk, j * 4, none⟩ = some c0 ∧ w.cell? ⟨gk, j * 4 + 1, none⟩ = some c1 ∧ w.cell? ⟨gk, j * 4 + 2, none⟩ = some c2 ∧ w.cell? ⟨gk, j * 4 + 3, none⟩ = some c3 ∧ (∀ i, i < 4 → w.frozen? ⟨gk, j * 4 + i, none⟩ = false) := by
  cases d with
  | zero => exact h.elim
  | succ d =>
  obtain ⟨PA, pc, TA, tc, KA, kc, e, hp, ht, hf, hks⟩ := h
  obtain ⟨m0, hm0⟩ : ∃ m0, n.ks[j]? = some m0 := ⟨_, List.getElem?_eq_getElem hj⟩
  obtain ⟨g0, u0, rfl, hg0, _, ⟨a0, a1, a2, a3, _, f0, f1, f2, f3⟩, hz⟩ := hks j m0 hm0
  simp only [Nat.zero_add] at f0 f1 f2 f3
  exact ⟨g0, PA, pc, TA, tc, kc, a0, a1, a2, a3, e, hg0, f0, f1, f2, f3, hz⟩


theorem tight_get : ∀ (n : NT) (p : List Int) (x : NT), TightT n → getO n p = some x → TightT x
  | n, [], x => fun h e => by injection e with e; rw [← e]; exact h
  | n, i :: r, x => fun h e => by
    rw [getO_cons] at e
    cases hk : kidT n i with
    | none => rw [hk] at e; cases e
    | some k =>
      rw [hk] at e
      exact tight_get k r x (h.kid (kid_has hk).2.2) e

theorem NewN.newO {g : Nat} {r : NT × Int} {w w' : World} {e : Ending} (h : NewN r w e w') (hg : g < w.heap.size) : NewO g r none w e w' := by
  obtain ⟨v, d, h1, h2, h3⟩ := h
  exact ⟨v, d, h1, h2, Off.of_below h3, h3.block g hg⟩
theorem two_holds (w : World) (o o' : Obj) : Holds [(w.heap.size + 1, o'), (w.heap.size, o)] ((w.alloc o).alloc o') := (Holds.nil w).add2 o o'
theorem takeI_run (A : Option Addr) (n c k : Nat) (hk : k ≤ c) : ∀ W : World, (Instr.slice 27 (.slice A n c) none (some (.int .i64 (k : Int))) none).run Try.prog W = .ok (.slice A k c) W := fun W => by
  have he : Try.prog.elem 27 = 3 := by kernel_rfl
  have hs : ∀ W, (sizeOf 3).run Try.prog W = .ok 1 W := fun _ => by kernel_rfl
  rw [run_slice_h W 27 A n c (by rw [he]; exact Try.underlying27) .i64 _ (by omega) (by omega), he, hs]
  have e : (A.map fun x => x.add 0) = A := by
    cases A
    · rfl
    · simp [Addr.add]
  simp [Result.andThen, sliced, e]
theorem At.lf {w : World} {n : NT} {b r : Bool} {PA : Option Addr} {np pc : Nat} {TA : Option Addr} {nt tc : Nat} {KA : Option Addr} {nk kc : Nat} (h : At w (.agg #[.bool b, .slice PA np pc, .slice TA nt tc, .slice KA nk kc]) n) (hr : n.lf = r) : r = b := by
  obtain ⟨_, _, _, _, _, _, _, _, e⟩ := h.full hr rfl
  simp only [Value.agg.injEq, Array.mk.injEq, List.cons.injEq, Value.bool.injEq] at e
  exact e.1.symm
theorem add_l {w : World} {v u : Value} {n m x : NT} {er : Int} {A : Option Addr} {p : List Int} {lp c : Nat} (hr : addE n p m = (x, er)) (hlp : p.length = lp) (hl : lp ≤ 1000) (hc : lp ≤ c) (hn : At w v n) (hm : At w u m) (hp : IL w w.heap.size A p) (hbd : ∀ x, getO n (upP p) = some x → x.ks.length < 1759218604441) : Calls Try.prog 16 #[v, .slice A lp c, u] w (NewN (x, er) w) := by
  subst hlp; exact add_is hr hl hc hn hm hp hbd
theorem cut_l {w : World} {v : Value} {n x y : NT} {er : Int} {A : Option Addr} {p : List Int} {lp c : Nat} (hr : cutE n p = (x, er)) (hy : cutM n p = y) (hlp : p.length = lp) (hl : lp ≤ 1000) (hc : lp ≤ c) (hn : At w v n) (hp : IL w w.heap.size A p) : Calls Try.prog 18 #[v, .slice A lp c] w (NewC x y er w) := by
  subst hlp; exact cut_is hr hy hl hc hn hp
theorem get_l {w : World} {v : Value} {n x : NT} {er : Int} {A : Option Addr} {p : List Int} {lp c : Nat} (hr : getE n p = (x, er)) (hlp : p.length = lp) (hl : lp ≤ 1000) (hn : At w v n) (hp : IL w w.heap.size A p) : Calls Try.prog 12 #[v, .slice A lp c] w (NewN (x, er) w) := by
  subst hlp; exact get_is hr hl hn hp
theorem par_l {w : World} {A : Option Addr} {p l : List Int} {er : Int} {lp c : Nat} (hr : parentL p = (l, er)) (hlp : p.length = lp) (hl : lp ≤ 1000) (hc : lp ≤ c) (hp : IL w w.heap.size A p) : Calls Try.prog 33 #[.slice A lp c] w (NewPE w (l, er)) := by
  subst hlp; exact par_is hr hl hc hp
theorem NewPE.opnL {l : List Int} {lu : Nat} {er : Int} {w w' : World} {e : Ending} (h : NewPE w (l, er) e w') (hlu : l.length = lu) : ∃ A c, e = .returned (.tuple #[.slice A lu c, .int .i64 er]) ∧ lu ≤ c ∧ IL w' w'.heap.size A l ∧ Below w.heap.size w w' := by
  subst hlu; exact h.opn

end Go.Proofs.Ytggapngibkeodaa
