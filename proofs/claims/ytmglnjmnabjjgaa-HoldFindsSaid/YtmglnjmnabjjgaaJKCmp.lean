/- Points compared: cmp.Or, point.Compare, point.Same, and the document's. Rows of the call's own_i: a copy, a path beside one; and the calls that tell a parent, the next one, the one back. beside, Parent, Next and Back, and the document's own_i. A region that draws its order and holds calls that make memory, but leave all that was there: one walk in the order of the text, in whatever later world. left and Few: how many more nodes, runes and properties there might be, as ints tell it. A tree whose blocks meet a condition, none of its cells frozen; fresh lists of properties and of runes. Trees by paths: the node at a path, another one in its place, one put in, one cut out; plain functions and facts, no program is named here. A node that a call builds: its variable, its row of Kids, one kid more, and what it is in the end. The document's Copy: a tree of its own, its row its own. Left, and the document's, answers whether one path stands left of another one; memory stays as it was. Levels and the document's; SameAll: lists of paths in memory. splice: a copy of a node with other Kids in the place of some. A point's own copy; a range's points in order, the program's and the document's. Points as a law holds them: the calls on two of them, in any later world. Arguments that are points or selections, opened: what their cells hold. Refs: plain functions and facts; no program is named here. Selections: SameSel, CheckSel, the program's and the document's. Where a path's node goes: plain functions and facts; no program is named here. Operations as plain data: the same or not, has one the fields of its kind, which one undoes it, which ones undo many. -/
import Derived.Test.YtmglnjmnabjjgaaJGText
import Derived.Deep.RegionHeld3
import Derived.Laws.AppendOwnNone
import Derived.IntWalk
import Derived.Shelf.Abstract
import Derived.BigQuiet
import Derived.Laws.IdiomStrings
import Derived.Deep.AppendLies
import Derived.Deep.DeepCutAuto
import Derived.Deep.CutBlock
import Derived.Deep.RegionLaw
import Derived.StillTailTactics
import Derived.ArgAppend
import Derived.Lib.SliceRun
namespace Go.Proofs.Ytmglnjmnabjjgaa
open Go.RowKit

/-- The first number that is not 0. -/
def orL : List Int → Int
  | [] => 0
  | x :: r => if x = 0 then orL r else x
set_option maxRecDepth 4000 in
theorem orL_at : ∀ (l : List Int) (n : Nat), n < l.length → (∀ j, j < n → iAt l j = 0) → iAt l n ≠ 0 → orL l = iAt l n
  | [], n, h, _, _ => by simp at h
  | x :: r, 0, _, _, h => by
    have : x ≠ 0 := by simpa [iAt] using h
    rw [orL, if_neg this]; rfl
  | x :: r, n + 1, hn, h0, h => by
    have hx : x = 0 := by simpa [iAt] using h0 0 (by omega)
    rw [orL, if_pos hx]
    have := orL_at r n (by simpa using hn) (fun j hj => by simpa [iAt] using h0 (j + 1) (by omega)) (by simpa [iAt] using h)
    rw [this]; simp [iAt]
set_option maxRecDepth 4000 in
theorem orL_none : ∀ (l : List Int), (∀ j, j < l.length → iAt l j = 0) → orL l = 0
  | [], _ => rfl
  | x :: r, h0 => by
    have hx : x = 0 := by simpa [iAt] using h0 0 (by simp)
    rw [orL, if_pos hx]
    exact orL_none r fun j hj => by simpa [iAt] using h0 (j + 1) (by simpa using hj)
set_option maxRecDepth 4000 in
theorem orL_two (a b : List Int × Int) : orL [cmpL a.1 b.1, cmpI a.2 b.2] = cmpP a b := by
  unfold cmpP
  rw [orL, orL, orL]
  split
  · split
    · rename_i h; exact h.symm
    · rfl
  · rfl

set_option maxRecDepth 4000 in
theorem or_any (A : Option Addr) (l : List Int) (n c : Nat) (w : World) (hn : l.length = n) (hl : n ≤ 1000) (hp : IL w w.heap.size A l) :
    Calls Try.prog 73 #[.slice A n c] w fun e w' => e = .returned (.int .i64 (orL l)) ∧ w' = w := by
  have HP := hd hp
  have HN := hd hn
  clear hp hn
  go_enter Try.func73, Try.ntmps73
  go_wp2
  go_loopw [8] (fun i wr => ∃ k : Nat, k ≤ n ∧ i = .int .i64 k ∧ wr = w ∧ Hid (∀ j, j < k → iAt l j = 0)) (fun i _ => n - (intOf i).toNat)
  case atStart => exact ⟨0, Nat.zero_le _, rfl, by trivial, fun j hj => absurd hj (Nat.not_lt_zero _)⟩
  case round =>
    obtain ⟨k, hk, rfl, rfl, HA⟩ := hrel
    by_cases hlt : k < n
    · obtain ⟨b, o, rfl, hbl, hc⟩ := HP.out.at_ (k := k) (by rw [HN.out]; exact hlt)
      by_cases hz : iAt l k = 0
      · have HB := one_more (p := fun j => iAt l j = 0) HA hz
        have hx : (iAt l k != 0) = false := by simp [hz]
        clear HA hz
        go_wp2
        go_roundw
        case rel => exact ⟨k + 1, by omega, by go_num, by trivial, HB⟩
        case measure => simp [intOf]; omega
      · have HF := hd (orL_at l k (by rw [HN.out]; exact hlt) HA.out hz)
        have hx : (iAt l k != 0) = true := by simp [hz]
        clear HA hz
        go_wp2
        go_ret
        exact ⟨ret_int HF.out.symm, by trivial⟩
    · have HF := hd (orL_none l fun j hj => HA.out j (by rw [HN.out] at hj; omega))
      clear HA
      go_wp2
      go_ret
      exact ⟨ret_int HF.out.symm, by trivial⟩

set_option maxRecDepth 4000 in
theorem pt_two (w : World) (a b c d : Value) (t t' : TypeId) : ((w.alloc (.cells #[a, b] t)).alloc (.cells #[c, d] t')).cell? ⟨w.heap.size, 0, none⟩ = some a ∧ ((w.alloc (.cells #[a, b] t)).alloc (.cells #[c, d] t')).cell? ⟨w.heap.size, 1, none⟩ = some b ∧
    ((w.alloc (.cells #[a, b] t)).alloc (.cells #[c, d] t')).cell? ⟨w.heap.size + 1, 0, none⟩ = some c ∧ ((w.alloc (.cells #[a, b] t)).alloc (.cells #[c, d] t')).cell? ⟨w.heap.size + 1, 1, none⟩ = some d := by
  have h1 := (Below.refl (w.alloc (.cells #[a, b] t)).heap.size (w.alloc (.cells #[a, b] t))).alloc (Nat.le_refl _) (.cells #[c, d] t')
  refine ⟨(h1.cell (by simp)).trans ?_, (h1.cell (by simp)).trans ?_, ?_, ?_⟩
  · rw [World.cell?_alloc_at _ _ _ _ rfl]; rfl
  · rw [World.cell?_alloc_at _ _ _ _ rfl]; rfl
  · rw [World.cell?_alloc_at _ _ _ _ (by simp)]; rfl
  · rw [World.cell?_alloc_at _ _ _ _ (by simp)]; rfl
set_option maxRecDepth 4000 in
theorem il_two {w : World} {b : Nat} {x y : Int} (hb : b < w.heap.size) (hx : w.cell? ⟨b, 0, none⟩ = some (.int .i64 x)) (hy : w.cell? ⟨b, 1, none⟩ = some (.int .i64 y)) : IL w w.heap.size (some ⟨b, 0, none⟩) [x, y] := fun _ =>
  ⟨b, 0, rfl, hb, fun k hk => by
    match k, hk with
    | 0, _ => exact hx
    | 1, _ => exact hy⟩

set_option maxRecDepth 4000 in
set_option maxHeartbeats 2000000 in
theorem pcompare_any (A B : Option Addr) (p q : List Int × Int) (n m c d : Nat) (w : World) (hn : p.1.length = n) (hm : q.1.length = m) (hl : n ≤ 9223372036854775807) (hl2 : m ≤ 9223372036854775807) (hp : IL w w.heap.size A p.1) (hq : IL w w.heap.size B q.1) :
    Calls Try.prog 64 #[.agg #[.slice A n c, .int .i64 p.2], .agg #[.slice B m d, .int .i64 q.2]] w (Still (.int .i64 (cmpP p q)) w) := by
  subst hn hm
  have HE := hd (orL_two p q)
  obtain ⟨x, hx⟩ : ∃ x, x = cmpL p.1 q.1 := ⟨_, rfl⟩
  obtain ⟨y, hy⟩ : ∃ y, y = cmpI p.2 q.2 := ⟨_, rfl⟩
  rw [← hx, ← hy] at HE
  have HC := hd (fun (W : World) (h : Below w.heap.size w W) => hx ▸ compare_any A B p.1 q.1 c d W hl hl2 (hp.later h) (hq.later h))
  have HI := hd (fun (W : World) => hy ▸ cmp_any p.2 q.2 W)
  have HO := hd (fun (W : World) (g : Nat) (h1 : g < W.heap.size) (h2 : W.cell? ⟨g, 0, none⟩ = some (.int .i64 x)) (h3 : W.cell? ⟨g, 1, none⟩ = some (.int .i64 y)) => HE.out ▸ or_any _ [x, y] 2 2 W rfl (by omega) (il_two h1 h2 h3))
  clear hp hq hx hy
  obtain ⟨W0, hW⟩ : ∃ W0, W0 = (w.alloc (.cells #[.slice A p.1.length c, .int .i64 p.2] 30)).alloc (.cells #[.slice B q.1.length d, .int .i64 q.2] 30) := ⟨_, rfl⟩
  have hz : W0.heap.size = w.heap.size + 2 := by rw [hW]; simp
  have hb0 : Below w.heap.size w W0 := hW ▸ ((Below.refl w.heap.size w).alloc (Nat.le_refl _) _).alloc (by simp) _
  have e0 : W0.cell? ⟨w.heap.size, 0, none⟩ = some (.slice A p.1.length c) ∧ W0.cell? ⟨w.heap.size, 1, none⟩ = some (.int .i64 p.2) ∧ W0.cell? ⟨w.heap.size + 1, 0, none⟩ = some (.slice B q.1.length d) ∧ W0.cell? ⟨w.heap.size + 1, 1, none⟩ = some (.int .i64 q.2) := hW ▸ pt_two w _ _ _ _ _ _
  have HMK := hd (show ∀ W, Below W0.heap.size W0 W → (Below W0.heap.size W0 W ∧ W.cell? ⟨w.heap.size, 0, none⟩ = some (.slice A p.1.length c) ∧ W.cell? ⟨w.heap.size, 1, none⟩ = some (.int .i64 p.2) ∧ W.cell? ⟨w.heap.size + 1, 0, none⟩ = some (.slice B q.1.length d) ∧ W.cell? ⟨w.heap.size + 1, 1, none⟩ = some (.int .i64 q.2)) from fun W h =>
    ⟨h, (h.cell (show w.heap.size < _ by omega)).trans e0.1, (h.cell (show w.heap.size < _ by omega)).trans e0.2.1, (h.cell (show w.heap.size + 1 < _ by omega)).trans e0.2.2.1, (h.cell (show w.heap.size + 1 < _ by omega)).trans e0.2.2.2⟩)
  have HB0 := hd hb0
  have HZ := hd hz
  have HW := hd hW
  clear hW e0 hz hb0
  go_enter Try.func64, Try.ntmps64
  go_wp2
  rw [← HW.out]
  have HSa := hd (HMK.out W0.drew (Below.refl _ _).drew)
  go_region_held3 (fun W => Below W0.heap.size W0 W ∧ W.cell? ⟨w.heap.size, 0, none⟩ = some (.slice A p.1.length c) ∧ W.cell? ⟨w.heap.size, 1, none⟩ = some (.int .i64 p.2) ∧ W.cell? ⟨w.heap.size + 1, 0, none⟩ = some (.slice B q.1.length d) ∧ W.cell? ⟨w.heap.size + 1, 1, none⟩ = some (.int .i64 q.2))
    (first
      | (with_reducible exact HS3.out)
      | (with_reducible exact HS2.out)
      | (with_reducible exact HS1.out)
      | (with_reducible exact HSa.out))
    (first
      | (go_at_call 73; refine (HO.out _ _ (by show w1.heap.size < _; simp) (by rw [World.cell?_alloc_at _ _ _ _ rfl]; rfl) (by rw [World.cell?_alloc_at _ _ _ _ rfl]; rfl)).mono ?_; rintro e w3 ⟨rfl, rfl⟩)
      | (go_at_call 75; refine (HI.out _).mono ?_; rintro e w2 ⟨rfl, rfl⟩; have HS3 := hd (HMK.out (w1.alloc (.cells #[.int .i64 x, .int .i64 y] 3)) (HBd.out.alloc HBd.out.size _)))
      | (go_at_call 74; refine (HC.out _ (HB0.out.trans ((Below.refl _ _).drew.mono HB0.out.size))).mono ?_; rintro e w1 ⟨rfl, k, e1⟩; have HBd := hd (show Below W0.heap.size W0 w1 from e1 ▸ below_drewN (Below.refl W0.heap.size W0).drew k); have HS2 := hd (HMK.out _ HBd.out); clear e1))
  go_wp2
  go_ret
  exact ⟨rfl, HB0.out.trans ((HBd.out.alloc HBd.out.size _).mono HB0.out.size)⟩

set_option maxRecDepth 4000 in
/-- The points that two variables hold: the world behind them, and whatever comes later. -/
theorem two_points {w : World} (a b c d : Value) (t t' : TypeId) : ∃ W0, (w.alloc (.cells #[a, b] t)).alloc (.cells #[c, d] t') = W0 ∧ Below w.heap.size w W0 ∧ W0.heap.size = w.heap.size + 2 ∧
    ∀ W, Below W0.heap.size W0 W → (Below W0.heap.size W0 W ∧ W.cell? ⟨w.heap.size, 0, none⟩ = some a ∧ W.cell? ⟨w.heap.size, 1, none⟩ = some b ∧ W.cell? ⟨w.heap.size + 1, 0, none⟩ = some c ∧ W.cell? ⟨w.heap.size + 1, 1, none⟩ = some d) := by
  refine ⟨_, rfl, ((Below.refl w.heap.size w).alloc (Nat.le_refl _) _).alloc (by simp) _, by simp, fun W h => ?_⟩
  have e0 := pt_two w a b c d t t'
  exact ⟨h, (h.cell (by simp; omega)).trans e0.1, (h.cell (by simp; omega)).trans e0.2.1, (h.cell (by simp)).trans e0.2.2.1, (h.cell (by simp)).trans e0.2.2.2⟩

set_option maxRecDepth 4000 in
theorem prsame_pts (A B : Option Addr) (p q : List Int × Int) (n m c d : Nat) (w : World) (hn : p.1.length = n) (hm : q.1.length = m) (hl : n ≤ 9223372036854775807) (hl2 : m ≤ 9223372036854775807) (hp : IL w w.heap.size A p.1) (hq : IL w w.heap.size B q.1) :
    Calls Try.prog 26 #[.agg #[.slice A n c, .int .i64 p.2], .agg #[.slice B m d, .int .i64 q.2]] w (Still (.bool (samP p q)) w) := by
  subst hn hm
  obtain ⟨x, hx⟩ : ∃ x, x = samI p.1 q.1 := ⟨_, rfl⟩
  have HC := hd (fun (W : World) (h : Below w.heap.size w W) => hx ▸ irsame_any A B p.1 q.1 c d W hl hl2 (hp.later h) (hq.later h))
  obtain ⟨W0, hW, hb0, hz, hk⟩ := two_points (w := w) (.slice A p.1.length c) (.int .i64 p.2) (.slice B q.1.length d) (.int .i64 q.2) 30 30
  have HW := hd hW
  have HB0 := hd hb0
  obtain ⟨_, x0, x1, y0, y1⟩ := hk W0 (Below.refl _ _)
  by_cases h0 : p.2 = q.2
  · have HF := hd (show samP p q = x by
      rw [hx]; unfold samP samI
      rw [decide_eq_decide]
      exact ⟨fun h => by rw [h], fun h => Prod.ext h h0⟩)
    have g0 : (p.2 == q.2) = true := by simp [h0]
    clear hp hq hx hW hb0 hz hk h0
    go_enter Try.func26, Try.ntmps26
    go_wp2_with (go_at_call 31; rw [HW.out]; refine (HC.out _ HB0.out).mono ?_; rintro e w1 ⟨rfl, k, e1⟩; have HB1 := hd (show Below W0.heap.size W0 w1 from e1 ▸ below_drewN (Below.refl W0.heap.size W0) k); clear e1)
    go_ret
    exact ⟨ret_bool HF.out.symm, HB0.out.trans (HB1.out.mono HB0.out.size)⟩
  · have HF := hd (show samP p q = false by unfold samP; rw [decide_eq_false_iff_not]; intro h; exact h0 (by rw [h]))
    have g0 : (p.2 == q.2) = false := by simp [h0]
    clear hp hq hx hW hz hk h0
    go_enter Try.func26, Try.ntmps26
    go_wp2
    go_ret
    exact ⟨ret_bool HF.out.symm, by rw [HW.out]; exact HB0.out⟩

end Go.Proofs.Ytmglnjmnabjjgaa

namespace Go.Proofs.Ytmglnjmnabjjgaa
open Go.RowKit
open Go.WideShapes (add_plain)

theorem intInfo : (Try.prog.info? 3).map (fun i => (i.zero, i.size, i.bytes)) = some (some (.int .i64 0), 1, 8) := by kernel_rfl

set_option maxRecDepth 4000 in
/-- A list's numbers appended to a row of the call's own_i. -/
theorem wpList_append_L (W : World) {ops : Array Oper} {rest : List Oper} {o : Oper} {a : Act} {Q : Exit → Act → World → Prop} (hgd : o.guard = none) (s x : Operand)
    (ho : o.op = .call { callee := .builtin .append, args := #[s, x], argTypes := #[28, 28] })
    (b : Nat) (v : Value) (k l : List Int) (hs : a.eval s = v) (hO : OwnI W b v k) (A : Option Addr) (n c B : Nat) (hx : a.eval x = .slice A n c) (hn : l.length = n) (hp : IL W B A l) (hlen : k.length + l.length ≤ 10000) (hb : b ≤ W.heap.size)
    (hK : ∀ v' w', OwnI w' b v' (k ++ l) → Grew b v W w' → wpList Try.prog ops Q rest (a.put o.dst v') w') :
    wpList Try.prog ops Q (o :: rest) a W := by
  subst hn
  obtain ⟨i0, hi, hz0, hz1, hz2⟩ := info_parts intInfo
  rcases A with _ | ad
  · have hl : l = [] := by
      rcases Classical.em (l = []) with h | h
      · exact h
      · obtain ⟨_, _, h, _⟩ := hp h; cases h
    subst hl
    refine wpList_append_none hgd s x 28 ho b 3 i0 1 Try.underlying28 hi v k.length (k.map (Value.int .i64)) hs hO.own c hx ?_
    exact hK v W (by rw [List.append_nil]; exact hO) (Grew.refl _ _ _)
  · have hc : ∀ j u, (l.map (Value.int .i64))[j]? = some u → W.cell? (ad.add j) = some u := by
      intro j u hj
      have hjl : j < l.length := by have := (List.getElem?_eq_some_iff.1 hj).1; simpa using this
      obtain ⟨b', o', e, _, h⟩ := hp (by rintro rfl; simp at hjl)
      injection e with e
      subst e
      rw [add_plain, h j hjl, ← hj]
      simp [iAt_eq l j hjl, hjl]
    refine wpList_append_own _ hgd s x 28 ho b 3 i0 _ 1 8 Try.underlying28 hi hz0 hz1 hz2 rfl (by decide) v k.length (k.map (Value.int .i64)) hs hO.own ad l.length c (l.map (Value.int .i64)) hx (by simp) hc (by simp [Value.oneCell'])
      (by unfold maxLen; omega) (by omega) hb (fun v' w' h1 h2 _ => hK v' w' (OwnI.of_own (n := k.length + l.length) (by rw [List.map_append]; exact h1) (by simp)) ?_)
    exact ⟨h2.size, fun B w0 hB hBW hb0 => hb0.grown h2 hBW (fun j hj => Nat.le_trans hB (hO.lt hj).1), fun p hp hne => World.cell?_of_block (h2.block p.block hp hne)⟩

def NewP (w : World) (l : List Int) (e : Ending) (w' : World) : Prop := ∃ v, e = .returned v ∧ OwnI w' w.heap.size v l ∧ Below w.heap.size w w'
set_option maxRecDepth 4000 in
theorem OwnI.made (w : World) (b n : Nat) (hn : n ≤ 10000) (hb : b ≤ w.heap.size) : OwnI (w.alloc (.cells (madeCells #[.int .i64 0] n) 3)) b (.slice (some ⟨w.heap.size, 0, none⟩) 0 n) [] :=
  OwnI.of_own (World.ownsRow_made w _ n hb (by unfold maxLen; omega) (by rw [size_madeCells]; omega)) rfl

end Go.Proofs.Ytmglnjmnabjjgaa

namespace Go.Proofs.Ytmglnjmnabjjgaa
open Go.RowKit
open Go.WideShapes (add_plain)

theorem OwnI.form {w : World} {b : Nat} {v : Value} {l : List Int} (h : OwnI w b v l) (hl : 0 < l.length) : ∃ g c, v = .slice (some ⟨g, 0, none⟩) l.length c ∧ l.length ≤ c ∧ c ≤ maxLen ∧ b ≤ g ∧ g < w.heap.size ∧
    (∀ k, k < l.length → w.cell? ⟨g, k, none⟩ = some (.int .i64 (iAt l k))) ∧ (∀ k, w.frozen? ⟨g, k, none⟩ = false) ∧ ∀ k u, OwnI (w.setCell ⟨g, k, none⟩ (.int .i64 u)) b v (l.set k u) := by
  obtain ⟨A, c, rfl, h1, h2, h3⟩ := h
  obtain ⟨g, cap, hv, hbg, hlt⟩ := h3.form hl
  injection hv with hA _ hcap
  subst hA hcap
  refine ⟨g, c, rfl, h1, h2, hbg, hlt, fun k hk => ?_, fun k => h3.frozenAt k, fun k u => ?_⟩
  · rw [h3.cellAt k (by omega)]
    simp [iAt_eq l k hk, hk]
  · refine OwnI.of_own (n := l.length) ?_ (by simp)
    have := (h3.stored k (.int .i64 u)).1
    rwa [← List.map_set] at this

end Go.Proofs.Ytmglnjmnabjjgaa

namespace Go.Proofs.Ytmglnjmnabjjgaa
open Go.RowKit

/-- The worlds that keep what lies below N as it is in w. -/
def Later (N : Nat) (w : World) : Type := { w' : World // Below N w w' }
instance (N : Nat) (w : World) : Nonempty (Later N w) := ⟨⟨w, Below.refl N w⟩⟩
end Go.Proofs.Ytmglnjmnabjjgaa

namespace Go.Proofs.Ytmglnjmnabjjgaa
open Go.RowKit
def In64 (a : Int) : Prop := -9223372036854775808 ≤ a ∧ a ≤ 9223372036854775807
end Go.Proofs.Ytmglnjmnabjjgaa

namespace Go.Proofs.Ytmglnjmnabjjgaa
open Go.RowKit
open Go.WideShapes (add_plain)

/-- A cell that holds u, and may be written. -/
def Free (w : World) (b q : Nat) (u : Value) : Prop := w.cell? ⟨b, q, none⟩ = some u ∧ w.frozen? ⟨b, q, none⟩ = false
/-- What the table of types says of an element of so many cells. -/
structure ElemG (ts te : TypeId) (size by_ : Nat) : Prop where
  under : Try.prog.underlying ts = some (.slice te)
  info : ∃ i z, Try.prog.info? te = some i ∧ i.zero = some z ∧ i.size = size ∧ i.bytes = by_ ∧ z.cells.size = size
  pos : 0 < size
end Go.Proofs.Ytmglnjmnabjjgaa

namespace Go.Proofs.Ytmglnjmnabjjgaa
open Go.RowKit

def zeroT : NT := .mk false [] [] []
/-- A list with others in the place of so many from i on. -/
def spl (ks : List NT) (i many : Nat) (o : List NT) : List NT := ks.take i ++ o ++ ks.drop (i + many)
def splT (n : NT) (i many : Nat) (o : List NT) : NT := .mk n.lf n.ps n.tx (spl n.ks i many o)
/-- n with another kid. -/
def setK (n : NT) (i : Nat) (k : NT) : NT := splT n i 1 [k]

end Go.Proofs.Ytmglnjmnabjjgaa

namespace Go.Proofs.Ytmglnjmnabjjgaa
open Go.RowKit
open Go.WideShapes (add_plain)

/-- Nothing has changed but block g. -/
structure Off (g : Nat) (w w' : World) : Prop where
  os : w'.os = w.os
  tape : w'.tape = w.tape
  output : w'.output = w.output
  size : w.heap.size ≤ w'.heap.size
  block : ∀ k, k < w.heap.size → k ≠ g → w'.heap[k]? = w.heap[k]?
set_option maxRecDepth 4000 in
theorem Off.refl (g : Nat) (w : World) : Off g w w := ⟨rfl, rfl, rfl, Nat.le_refl _, fun _ _ _ => rfl⟩
set_option maxRecDepth 4000 in
theorem Off.of_below {g : Nat} {w w' : World} (h : Below w.heap.size w w') : Off g w w' := ⟨h.os, h.tape, h.output, h.size, fun k hk _ => h.block k hk⟩
set_option maxRecDepth 4000 in
theorem Off.trans {g : Nat} {a b c : World} (h : Off g a b) (k : Off g b c) : Off g a c :=
  ⟨k.os.trans h.os, k.tape.trans h.tape, k.output.trans h.output, Nat.le_trans h.size k.size, fun i hi hg => (k.block i (Nat.lt_of_lt_of_le hi h.size) hg).trans (h.block i hi hg)⟩
set_option maxRecDepth 4000 in
theorem Off.below {g B : Nat} {w w' : World} (h : Off g w w') (hg : B ≤ g) (hB : B ≤ w.heap.size) : Below B w w' :=
  ⟨h.os, h.tape, h.output, h.size, fun k hk => h.block k (by omega) (by omega)⟩
set_option maxRecDepth 4000 in
theorem fit_zero : FitN [] 0 0 0 0 0 := ⟨⟨by simp, by simp⟩, by simp, by omega, by omega, by simp, by omega, by omega⟩
set_option maxRecDepth 4000 in
/-- What a row of the call's own holds, nil or not. -/
theorem own_free {t : TypeId} {size n : Nat} {v : Value} {xs : List Value} {w : World} {base : Nat} (h : w.ownsRow base t size v n xs) : ∃ A c, v = .slice A n c ∧ n ≤ c ∧ c ≤ maxLen ∧ ∀ k u, xs[k]? = some u → ∃ g, A = some ⟨g, 0, none⟩ ∧ base ≤ g ∧ g < w.heap.size ∧ Free w g k u := by
  rcases h.2 with ⟨e, h0⟩ | ⟨g, cap, cur, e, hb, hh, h1, h2, _⟩
  · refine ⟨none, 0, by rw [e, h0], by omega, by unfold maxLen; omega, fun k u hu => ?_⟩
    have := (List.getElem?_eq_some_iff.1 hu).1
    rw [h.1, h0] at this
    omega
  · refine ⟨some ⟨g, 0, none⟩, cap, e, h1, h2, fun k u hu => ⟨g, rfl, hb, lt_of_block hh, ?_, by simp [World.frozen?, hh]⟩⟩
    have := h.cells (g := g) (by rw [e]; rfl) k u hu
    rwa [add_plain, Nat.zero_add] at this

end Go.Proofs.Ytmglnjmnabjjgaa

namespace Go.Proofs.Ytmglnjmnabjjgaa
open Go.RowKit
open Go.WideShapes (add_plain)

theorem run_append_zeroG {w : World} {ty t : TypeId} {base e size n : Nat} {i : TypeInfo} {v : Value} {xs : List Value} {A : Option Addr} {c : Nat} (ht : Try.prog.underlying t = some (.slice e)) (hi : Try.prog.info? e = some i) (hown : w.ownsRow base e size v n xs) :
    (Builtin.append_ #[t, t] ty #[v, .slice A 0 c]).run Try.prog w = .ok v w := by
  rcases hown.2 with ⟨rfl, rfl⟩ | ⟨g, cap, cur, rfl, _, _, hnc, _⟩
  · cases A <;> simp [Builtin.append_, run_underlying ht, sizeOf, typeInfo, hi, Builtin.lenOf, Builtin.firstCells, loadCells, loadCellsFrom]
  · cases A <;> simp [Builtin.append_, run_underlying ht, sizeOf, typeInfo, hi, Builtin.lenOf, Builtin.firstCells, loadCells, loadCellsFrom, hnc, storeCells]

end Go.Proofs.Ytmglnjmnabjjgaa

namespace Go.Proofs.Ytmglnjmnabjjgaa
open Go.RowKit

theorem left_no (l m : List Int) (K : Nat) (hK : K = alikeN l m) (h : K + 1 ≠ l.length ∨ ¬ K < m.length ∨ ¬ iAt l K < iAt m K) : leftL l m = false := by
  subst hK
  cases h2 : leftL l m
  · rfl
  · rw [leftL_iff] at h2
    omega

set_option maxRecDepth 4000 in
set_option maxHeartbeats 2000000 in
theorem ileft_any (A B : Option Addr) (l m : List Int) (c d : Nat) (w : World) (hl : l.length ≤ 9223372036854775807) (hm : m.length ≤ 9223372036854775807) (hp : IL w w.heap.size A l) (hq : IL w w.heap.size B m) :
    Calls Try.prog 66 #[.slice A l.length c, .slice B m.length d] w (Quiet (.bool (leftL l m)) w) := by
  have HC := hd (palike_any A B l m c d w hl hm hp hq)
  have hN := alikeN_le l m
  obtain ⟨K, hK⟩ : ∃ K, K = alikeN l m := ⟨_, rfl⟩
  rw [← hK] at HC hN
  have HK := hd hK
  clear hK
  have ws : IntKind.i64.wrap ((l.length : Int) - 1) = (l.length : Int) - 1 := IntWalk.i64_in _ (by omega)
  by_cases h1 : K + 1 = l.length
  · have hx : ((K : Int) == (l.length : Int) - 1) = true := by simp; omega
    by_cases h2 : K < m.length
    · obtain ⟨b1, o1, rfl, hl1, c1⟩ := hp.at_ (show K < l.length by omega)
      obtain ⟨b2, o2, rfl, hl2, c2⟩ := hq.at_ h2
      have h0 : K < l.length := by omega
      by_cases h3 : iAt l K < iAt m K
      · have HF := hd ((leftL_iff l m).2 (by rw [← HK.out]; exact ⟨h1, h2, h3⟩))
        clear hp hq hN h1
        go_enter Try.func66, Try.ntmps66
        go_wp2_with (go_at_call 32; refine HC.out.mono ?_; rintro e w' ⟨rfl, kd, rfl⟩)
        go_quiet (fail)
        go_wp2
        go_ret
        exact ret_quiet (bool_eq (by rw [HF.out])) (by first | exact ⟨_, rfl⟩ | exact ⟨_, World.drewN_drewN _ _ _⟩ | exact ⟨_, (World.drewN_drewN _ _ _).trans (World.drewN_drewN _ _ _)⟩)
      · have HF := hd (left_no l m K HK.out (.inr (.inr h3)))
        have h3' : decide (iAt l K < iAt m K) = false := decide_eq_false h3
        clear hp hq hN h1 h3
        go_enter Try.func66, Try.ntmps66
        go_wp2_with (go_at_call 32; refine HC.out.mono ?_; rintro e w' ⟨rfl, kd, rfl⟩)
        go_quiet (fail)
        go_wp2
        go_ret
        exact ret_quiet (bool_eq (by rw [HF.out])) (by first | exact ⟨_, rfl⟩ | exact ⟨_, World.drewN_drewN _ _ _⟩ | exact ⟨_, (World.drewN_drewN _ _ _).trans (World.drewN_drewN _ _ _)⟩)
    · have HF := hd (left_no l m K HK.out (.inr (.inl h2)))
      have h2' : decide (K < m.length) = false := decide_eq_false h2
      clear hp hq hN h1 h2
      go_enter Try.func66, Try.ntmps66
      go_wp2_with (go_at_call 32; refine HC.out.mono ?_; rintro e w' ⟨rfl, kd, rfl⟩)
      go_quiet (fail)
      go_wp2
      go_ret
      exact ret_quiet (bool_eq (by rw [HF.out])) (by first | exact ⟨_, rfl⟩ | exact ⟨_, World.drewN_drewN _ _ _⟩ | exact ⟨_, (World.drewN_drewN _ _ _).trans (World.drewN_drewN _ _ _)⟩)
  · have HF := hd (left_no l m K HK.out (.inl h1))
    have hx : ((K : Int) == (l.length : Int) - 1) = false := by simp; omega
    clear hp hq hN h1
    go_enter Try.func66, Try.ntmps66
    go_wp2_with (go_at_call 32; refine HC.out.mono ?_; rintro e w' ⟨rfl, kd, rfl⟩)
    go_quiet (fail)
    go_wp2
    go_ret
    exact ret_quiet (bool_eq (by rw [HF.out])) (by first | exact ⟨_, rfl⟩ | exact ⟨_, World.drewN_drewN _ _ _⟩ | exact ⟨_, (World.drewN_drewN _ _ _).trans (World.drewN_drewN _ _ _)⟩)

end Go.Proofs.Ytmglnjmnabjjgaa

namespace Go.Proofs.Ytmglnjmnabjjgaa
open Go.RowKit
open Go.WideShapes (add_plain)
set_option maxRecDepth 4000 in
theorem OwnI.open_at {w : World} {b : Nat} {v : Value} {l : List Int} (h : OwnI w b v l) (n : Nat) (hn : l.length = n) : ∃ (A : Option Addr) (c : Nat), v = .slice A n c ∧ n ≤ c ∧ IL w w.heap.size A l := by
  subst hn
  obtain ⟨A, c, h1, h2, _, h3⟩ := h.open_
  exact ⟨A, c, h1, h2, h3⟩
end Go.Proofs.Ytmglnjmnabjjgaa

namespace Go.Proofs.Ytmglnjmnabjjgaa
open Go.RowKit
open Go.WideShapes (add_plain)
set_option maxRecDepth 4000 in
/-- A list appended to a row of the call's own, and where the new one lies. -/
theorem wpList_append_GX {ts te : TypeId} {size by_ : Nat} (E : ElemG ts te size by_) (W : World) {ops : Array Oper} {rest : List Oper} {o : Oper} {a : Act} {Q : Exit → Act → World → Prop} (hgd : o.guard = none) (s x : Operand)
    (ho : o.op = .call { callee := .builtin .append, args := #[s, x], argTypes := #[ts, ts] })
    (b : Nat) (v : Value) (n : Nat) (k : List Value) (hs : a.eval s = v) (hO : W.ownsRow b te size v n k) (A : Option Addr) (m c B : Nat) (l : List Value) (hx : a.eval x = .slice A m c) (hn : l.length = m * size) (hp : VL W B A l) (h1 : ∀ u ∈ l, u.oneCell' = true)
    (h63 : n + m ≤ maxLen) (hby : (n + m) * by_ ≤ 140737488355328) (hb : b ≤ W.heap.size)
    (hK : ∀ A' c' w', w'.ownsRow b te size (.slice A' (n + m) c') (n + m) (k ++ l) → W.grownBy w' v.ownBlock → ((Value.slice A' (n + m) c').ownBlock = v.ownBlock ∨ ∃ g, (Value.slice A' (n + m) c').ownBlock = some g ∧ W.heap.size ≤ g) → wpList Try.prog ops Q rest (a.put o.dst (.slice A' (n + m) c')) w') :
    wpList Try.prog ops Q (o :: rest) a W := by
  obtain ⟨i0, z, hi, hz0, hz1, hz2, hz3⟩ := E.info
  have hsz := E.pos
  rcases Nat.eq_zero_or_pos m with hm | hm
  · subst hm
    have hl : l = [] := List.eq_nil_of_length_eq_zero (by simpa using hn)
    subst hl
    obtain ⟨A0, c0, rfl, _⟩ := own_free hO
    refine wpList_plain hgd fun K hK2 => ?_
    have hrun := run_append_zeroG (w := W) (ty := o.type) (A := A) (c := c) E.under hi hO
    unfold Oper.wp execOp
    simp only [ho, resolve, invoke, builtin, Sem.run_bind, Sem.run_pure, Result.andThen_ok, List.map_toArray, List.map_cons, List.map_nil, hs, hx, hrun]
    exact hK2 _ _ (hK A0 c0 W (by simpa using hO) ⟨rfl, rfl, rfl, Nat.le_refl _, fun _ _ _ => rfl⟩ (.inl (by cases A0 <;> rfl)))
  · have hl : 0 < l.length := by have := Nat.mul_pos hm hsz; omega
    obtain ⟨b', o', rfl, _, hc⟩ := hp (List.length_pos_iff.1 hl)
    refine wpList_plain hgd fun K hK2 => ?_
    refine wp_append_lies W s x ts ho b te i0 z size by_ E.under hi hz0 hz1 hz2 hz3 hsz v n k hs hO ⟨b', o', none⟩ m c l hx hn (fun j u hj => by rw [add_plain]; exact hc j u hj) h1 hm h63 hby hb W.heap.size rfl (fun g cap w' h1 h2 h3 _ => hK2 _ _ (hK _ cap w' h1 h2 ?_))
    rcases h3 with e | e
    · exact .inl (by rw [e]; rfl)
    · exact .inr ⟨g, rfl, by omega⟩

end Go.Proofs.Ytmglnjmnabjjgaa

namespace Go.Proofs.Ytmglnjmnabjjgaa
open Go.RowKit
/-! A block of two cells. -/
section
variable {w w' : World} {g : Nat} {a b x y : Value} {t : TypeId}
set_option maxRecDepth 4000 in
theorem set_blk (w : World) (g : Nat) (t : TypeId) (cs : Array Value) (k : Nat) (x : Value) (h : w.heap[g]? = some (.cells cs t (0, 0))) : (w.setCell ⟨g, k, none⟩ x).heap[g]? = some (.cells (cs.setIfInBounds k x) t (0, 0)) := by
  have hlt := lt_of_block h
  have h' : w.heap[g] = .cells cs t (0, 0) := by simpa [Array.getElem?_eq_getElem hlt] using h
  show (w.heap.modify g _)[g]? = _
  rw [Array.getElem?_eq_getElem (by simpa using hlt), Array.getElem_modify_self, h']
  rfl
end
set_option maxRecDepth 4000 in
theorem made_none : madeCells #[Value.int .i64 0] 0 = #[] := by simp [madeCells, Array.range]
set_option maxRecDepth 4000 in
theorem clone_any (A : Option Addr) (l : List Int) (n c : Nat) (w : World) (hn : l.length = n) (hl : n ≤ 1000) (hp : IL w w.heap.size A l) :
    Calls Try.prog 34 #[.slice A n c] w (NewP w l) := by
  have HP := hd hp
  have HN := hd hn
  clear hp hn
  rcases A with _ | a
  · have hnil := fun W => Go.Lib.run_eql_slice_nil (P := Try.prog) W 28 3 none n c 0 0 Try.underlying28
    have HL := hd (show l = [] by
      rcases Classical.em (l = []) with h | h
      · exact h
      · obtain ⟨_, _, h, _⟩ := HP.out h; cases h)
    go_enter Try.func34, Try.ntmps34
    go_wp2
    go_ret
    exact ⟨_, rfl, by rw [HL.out]; exact OwnI.nil _ _, Below.refl _ _⟩
  · have hnil := fun W => Go.Lib.run_eql_slice_nil (P := Try.prog) W 28 3 (some a) n c 0 0 Try.underlying28
    go_enter Try.func34, Try.ntmps34
    have HO := hd (show OwnI (w.alloc (.cells #[] 3)) w.heap.size (.slice (some ⟨w.heap.size, 0, none⟩) 0 0) [] from made_none ▸ OwnI.made w w.heap.size 0 (by omega) (Nat.le_refl _))
    go_wp2_with (at_builtin; (refine wpList_append_L _ rfl (.tmp 5) (.tmp 6) rfl w.heap.size (.slice (some ⟨w.heap.size, 0, none⟩) 0 0) [] l rfl HO.out (some a) n c w.heap.size rfl HN.out (HP.out.below ((Below.refl _ _).alloc (Nat.le_refl _) _)) (by have := HN.out; simp; omega) (by simp) ?_; intro v' w1 ho1 hg1))
    go_ret
    exact ⟨v', rfl, by simpa using ho1, hg1.below _ _ (Nat.le_refl _) (by simp) ((Below.refl _ _).alloc (Nat.le_refl _) _)⟩

end Go.Proofs.Ytmglnjmnabjjgaa

namespace Go.Proofs.Ytmglnjmnabjjgaa
open Go.RowKit

/-- The value v is the point p. -/
def PtAt (w : World) (v : Value) (p : List Int × Int) : Prop := ∃ A n c, v = .agg #[.slice A n c, .int .i64 p.2] ∧ p.1.length = n ∧ n ≤ 10000000 ∧ n ≤ c ∧ IL w w.heap.size A p.1
set_option maxRecDepth 4000 in
theorem PtAt.later {w w' : World} {v : Value} {p : List Int × Int} (h : PtAt w v p) (hb : Below w.heap.size w w') : PtAt w' v p := by
  obtain ⟨A, n, c, e, h1, h2, h3, h4⟩ := h
  exact ⟨A, n, c, e, h1, h2, h3, h4.later hb⟩
set_option maxRecDepth 4000 in
theorem cmp_at {w W : World} {u v : Value} {p q : List Int × Int} (hb : Below w.heap.size w W) (hp : PtAt w u p) (hq : PtAt w v q) : Calls Try.prog 64 #[u, v] W (Still (.int .i64 (cmpP p q)) W) := by
  obtain ⟨A, n, c, rfl, h1, h2, _, h3⟩ := hp.later hb
  obtain ⟨B, m, d, rfl, g1, g2, _, g3⟩ := hq.later hb
  exact pcompare_any A B p q n m c d W h1 g1 (by omega) (by omega) h3 g3
set_option maxRecDepth 4000 in
theorem rsame_at {w W : World} {u v : Value} {p q : List Int × Int} (hb : Below w.heap.size w W) (hp : PtAt w u p) (hq : PtAt w v q) : Calls Try.prog 26 #[u, v] W (Still (.bool (samP p q)) W) := by
  obtain ⟨A, n, c, rfl, h1, h2, _, h3⟩ := hp.later hb
  obtain ⟨B, m, d, rfl, g1, g2, _, g3⟩ := hq.later hb
  exact prsame_pts A B p q n m c d W h1 g1 (by omega) (by omega) h3 g3
end Go.Proofs.Ytmglnjmnabjjgaa

namespace Go.Proofs.Ytmglnjmnabjjgaa
open Go.ChangeShapes Go.WideShapes Go.RowKit Go.Deep

theorem fields_pt : Try.prog.underlying 30 = some (.struct (Try.prog.fieldsOf 30)) := by kernel_rfl
set_option maxRecDepth 4000 in
theorem pt_0 : ((Try.prog.fieldsOf 30)[0]?).map (fun f => (f.type, f.offset)) = some (28, 0) := by kernel_rfl
set_option maxRecDepth 4000 in
theorem pt_1 : ((Try.prog.fieldsOf 30)[1]?).map (fun f => (f.type, f.offset)) = some (3, 1) := by kernel_rfl
set_option maxRecDepth 4000 in
theorem size_pt : (Try.prog.fieldsOf 30).size = 2 := by kernel_rfl
set_option maxRecDepth 4000 in
theorem cells_pt : Try.prog.cellsOf 30 = 2 := by kernel_rfl
set_option maxRecDepth 4000 in
theorem cells_path : Try.prog.cellsOf 28 = 1 := by kernel_rfl
section
variable {H : Type} {enc : TypeId × Value → H} {W : World} {base : Nat} {held : Bool}
set_option maxRecDepth 4000 in
theorem path_cells {fuel : Nat} {cs : List Value} {x : DataW H × List MemPlace} (h : DataW.trod enc Try.prog W base (fun _ => true) held fuel 28 cs = some x) :
    ∃ (A : Option Addr) (l : List Int) (c : Nat), cs = [.slice A l.length c] ∧ l.length ≤ 9223372036854775807 ∧ l.length ≤ c ∧ IL W W.heap.size A l := by
  rcases open_ints Try.underlying28 Try.underlying3 cells_int h with ⟨hcs, _⟩ | ⟨a, len, cap, zs, hcs, _, hl, hm, hz, _, hc, hw⟩
  · exact ⟨none, [], 0, hcs, by decide, Nat.le_refl _, IL.nil _ _ _⟩
  · simp only [if_true] at hz
    have hlen : (zs.take len).length = len := by simp; omega
    refine ⟨some a, zs.take len, cap, by rw [hlen]; exact hcs, by rw [hlen]; unfold maxLen at hm; omega, by rw [hlen]; exact hl, fun hn => ?_⟩
    have h0 : 0 < len := by
      rcases Nat.eq_zero_or_pos len with h | h
      · subst h; simp at hn
      · exact h
    have hs := cell_lt (hc 0 (by omega))
    simp only [Addr.add, if_true] at hs
    obtain ⟨b, o, s⟩ := a
    obtain rfl : s = none := hs.2
    refine ⟨b, o, rfl, hs.1, fun k hk => ?_⟩
    rw [hlen] at hk
    have h1 := hc k (by omega)
    rw [add_plain] at h1
    rw [h1, iAt_eq _ k (by omega)]
    simp [List.getD, show k < zs.length by omega]
/-- The two cells of a point. -/
def PtCells (W : World) (c0 c1 : Value) (p : List Int × Int) : Prop := ∃ A c, c0 = .slice A p.1.length c ∧ c1 = .int .i64 p.2 ∧ p.1.length ≤ 9223372036854775807 ∧ p.1.length ≤ c ∧ IL W W.heap.size A p.1
set_option maxRecDepth 4000 in
theorem pt_cells {fuel : Nat} {cs : List Value} {x : DataW H × List MemPlace} (h : DataW.trod enc Try.prog W base (fun _ => true) held fuel 30 cs = some x) : ∃ c0 c1 p, cs = [c0, c1] ∧ PtCells W c0 c1 p := by
  obtain ⟨xs, f1, rfl, rfl, hcl, hxl, hf⟩ := DataW.trod_struct fields_pt h
  rw [cells_pt] at hcl
  rw [size_pt] at hxl
  obtain ⟨t0, e0, g0⟩ := Option.map_eq_some_iff.1 pt_0
  obtain ⟨t1, e1, g1⟩ := Option.map_eq_some_iff.1 pt_1
  simp only [Prod.mk.injEq] at g0 g1
  have r0 := hf 0 t0 e0
  have r1 := hf 1 t1 e1
  rw [g0.1, g0.2, cells_path] at r0
  rw [g1.1, g1.2, cells_int] at r1
  match cs, hcl, xs, hxl with
  | [c0, c1], _, [x0, x1], _ =>
    simp only [List.drop_zero, List.take_succ_cons, List.take_zero, List.drop_succ_cons, List.getElem?_cons_zero, List.getElem?_cons_succ] at r0 r1
    obtain ⟨A, l, c, k0, h1, h2, h3⟩ := path_cells r0
    obtain ⟨n, k1, _, _⟩ := DataW.trod_int Try.underlying3 r1
    simp only [List.cons.injEq, and_true] at k0 k1
    exact ⟨c0, c1, (l, n), rfl, A, c, k0, k1, h1, h2, h3⟩
end

section
variable {H : Type} {enc : TypeId × Value → H} {W : World} {base : Nat} {held : Bool}
end

end Go.Proofs.Ytmglnjmnabjjgaa

namespace Go.Proofs.Ytmglnjmnabjjgaa

/-- A ref. -/
structure RefP where
  id : Int
  kind : Int
  aff : Int
  live : Bool
  p : List Int
  q : List Int × Int
  a : List Int × Int
  f : List Int × Int
def zeroR : RefP := ⟨0, 0, 0, false, [], ([], 0), ([], 0), ([], 0)⟩
def samR (r s : RefP) : Bool := r.id == s.id && (r.kind == s.kind && (r.aff == s.aff && (r.live == s.live && (decide (r.p = s.p) && (samP r.q s.q && (samP r.a s.a && samP r.f s.f))))))
set_option maxRecDepth 4000 in
theorem samR_self (r : RefP) : samR r r = true := by simp [samR, samP]
/-- Whether two lists of refs are the same. -/
def samRs : List RefP → List RefP → Bool
  | [], [] => true
  | r :: l, s :: m => samR r s && samRs l m
  | _, _ => false
set_option maxRecDepth 4000 in
theorem samRs_self : ∀ l : List RefP, samRs l l = true
  | [] => rfl
  | r :: l => by rw [samRs, samR_self, samRs_self l]; rfl
set_option maxRecDepth 4000 in
theorem samRs_len : ∀ l m : List RefP, l.length ≠ m.length → samRs l m = false
  | [], [], h => absurd rfl h
  | [], _ :: _, _ => rfl
  | _ :: _, [], _ => rfl
  | r :: l, s :: m, h => by rw [samRs, samRs_len l m (by simpa using h)]; simp
set_option maxRecDepth 4000 in
theorem samRs_no : ∀ (l m : List RefP) (k : Nat) (r s : RefP), l[k]? = some r → m[k]? = some s → samR r s = false → samRs l m = false
  | [], _, _, _, _, h, _, _ => by simp at h
  | _ :: _, [], _, _, _, _, h, _ => by simp at h
  | x :: l, y :: m, 0, r, s, h1, h2, h => by
    simp only [List.getElem?_cons_zero, Option.some.injEq] at h1 h2
    subst h1 h2
    rw [samRs, h]
    rfl
  | x :: l, y :: m, k + 1, r, s, h1, h2, h => by
    rw [samRs, samRs_no l m k r s (by simpa using h1) (by simpa using h2) h]
    simp
set_option maxRecDepth 4000 in
theorem samRs_yes : ∀ (l m : List RefP), l.length = m.length → (∀ (k : Nat) (r s : RefP), l[k]? = some r → m[k]? = some s → samR r s = true) → samRs l m = true
  | [], [], _, _ => rfl
  | [], _ :: _, h, _ => by simp at h
  | _ :: _, [], h, _ => by simp at h
  | r :: l, s :: m, h, ha => by
    rw [samRs, ha 0 r s rfl rfl, samRs_yes l m (by simpa using h) (fun k x y h1 h2 => ha (k + 1) x y (by simpa using h1) (by simpa using h2))]
    rfl

/-- Few, and short. -/
def fewR (r : RefP) : Bool := decide (r.p.length ≤ 50) && (decide (r.q.1.length ≤ 50) && (decide (r.a.1.length ≤ 50) && decide (r.f.1.length ≤ 50)))
def fewRs (l : List RefP) : Bool := l.all fewR && decide (l.length ≤ 300)
set_option maxRecDepth 4000 in
theorem fewRs_no {l : List RefP} {k : Nat} {r : RefP} (h : l[k]? = some r) (hf : fewR r = false) : fewRs l = false := by
  unfold fewRs
  rw [Bool.and_eq_false_iff]
  left
  rw [List.all_eq_false]
  exact ⟨r, List.mem_of_getElem? h, by simp [hf]⟩
set_option maxRecDepth 4000 in
theorem fewRs_yes {l : List RefP} (h : ∀ (k : Nat) (r : RefP), l[k]? = some r → fewR r = true) : fewRs l = decide (l.length ≤ 300) := by
  unfold fewRs
  rw [List.all_eq_true.2 (fun r hr => by obtain ⟨k, hk⟩ := List.getElem?_of_mem hr; exact h k r hk), Bool.true_and]
set_option maxRecDepth 4000 in
theorem fewR_len {r : RefP} (h : fewR r = true) : r.p.length ≤ 50 ∧ r.q.1.length ≤ 50 ∧ r.a.1.length ≤ 50 ∧ r.f.1.length ≤ 50 := by
  simpa [fewR, and_assoc] using h
set_option maxRecDepth 4000 in
theorem fewRs_all {l : List RefP} (h : fewRs l = true) {r : RefP} (hr : r ∈ l) : fewR r = true := by
  unfold fewRs at h
  rw [Bool.and_eq_true, List.all_eq_true] at h
  exact h.1 r hr
set_option maxRecDepth 4000 in
theorem fewRs_len {l : List RefP} (h : fewRs l = true) : l.length ≤ 300 := by
  unfold fewRs at h
  rw [Bool.and_eq_true, decide_eq_true_iff] at h
  exact h.2

end Go.Proofs.Ytmglnjmnabjjgaa

namespace Go.Proofs.Ytmglnjmnabjjgaa
open Go.RowKit

/-- A selection: is there one, and its two points. -/
structure Sl where
  is : Bool
  a : List Int × Int
  f : List Int × Int
end Go.Proofs.Ytmglnjmnabjjgaa

namespace Go.Proofs.Ytmglnjmnabjjgaa

/-- All numbers are such as a path may have. -/
def smallI (l : List Int) : Bool := l.all fun n => decide (0 ≤ n) && decide (n ≤ 1048576)
set_option maxRecDepth 4000 in
theorem smallI_iff (l : List Int) : smallI l = true ↔ ∀ k, k < l.length → 0 ≤ iAt l k ∧ iAt l k ≤ 1048576 := by
  unfold smallI
  simp only [List.all_eq_true, Bool.and_eq_true, decide_eq_true_iff]
  constructor
  · intro h k hk; rw [iAt_eq l k hk]; exact h _ (List.getElem_mem hk)
  · intro h x hx
    obtain ⟨k, hk, rfl⟩ := List.getElem_of_mem hx
    have := h k hk
    rwa [iAt_eq l k hk] at this
set_option maxRecDepth 4000 in
theorem smallI_no (l : List Int) (k : Nat) (hk : k < l.length) (h : ¬ (0 ≤ iAt l k ∧ iAt l k ≤ 1048576)) : smallI l = false := by
  cases e : smallI l
  · rfl
  · exact absurd ((smallI_iff l).1 e k hk) h
def smallN (n : Int) : Bool := decide (0 ≤ n) && decide (n ≤ 1048576)
set_option maxRecDepth 4000 in
theorem smallI_one (n : Int) : smallI [n] = smallN n := by simp [smallI, smallN]
set_option maxRecDepth 4000 in
theorem smallN_iff (n : Int) : smallN n = true ↔ 0 ≤ n ∧ n ≤ 1048576 := by simp [smallN]

/-- One number so much more. -/
def addL (l : List Int) (k : Nat) (v : Int) : List Int := l.set k (iAt l k + v)
set_option maxRecDepth 4000 in
theorem addL_len (l : List Int) (k : Nat) (v : Int) : (addL l k v).length = l.length := by simp [addL]
set_option maxRecDepth 4000 in
theorem addL_at (l : List Int) (k : Nat) (v : Int) (h : k < l.length) : iAt (addL l k v) k = iAt l k + v := by
  rw [iAt_eq _ k (by rw [addL_len]; exact h)]; simp [addL]
set_option maxRecDepth 4000 in
theorem addL_ne (l : List Int) (k j : Nat) (v : Int) (h : j ≠ k) : iAt (addL l k v) j = iAt l j := by
  unfold iAt addL
  rw [List.getD_eq_getElem?_getD, List.getD_eq_getElem?_getD, List.getElem?_set_ne (by omega)]
/-- Numbers so much more, from a place on. -/
def plusL (l : List Int) (k : Nat) : List Int → List Int
  | [] => l
  | v :: by_ => plusL (addL l k v) (k + 1) by_
set_option maxRecDepth 4000 in
theorem plusL_len (by_ : List Int) : ∀ (l : List Int) (k : Nat), (plusL l k by_).length = l.length := by
  induction by_ with
  | nil => intro l k; rfl
  | cons v r ih => intro l k; rw [plusL, ih, addL_len]
set_option maxRecDepth 4000 in
theorem plusL_snoc (r : List Int) (v : Int) : ∀ (l : List Int) (k : Nat), plusL l k (r ++ [v]) = addL (plusL l k r) (k + r.length) v := by
  induction r with
  | nil => intro l k; rfl
  | cons x r ih => intro l k; rw [List.cons_append, plusL, plusL, ih]; rw [show k + 1 + r.length = k + (x :: r).length by simp; omega]
set_option maxRecDepth 4000 in
theorem plusL_take (by_ : List Int) (l : List Int) (k n : Nat) (hn : n < by_.length) : plusL l k (by_.take (n + 1)) = addL (plusL l k (by_.take n)) (k + n) (iAt by_ n) := by
  rw [List.take_add_one, List.getElem?_eq_getElem hn]
  simp only [Option.toList_some]
  rw [plusL_snoc, iAt_eq by_ n hn]
  congr 2
  simp; omega
set_option maxRecDepth 4000 in
/-- The number that comes next, ahead of it there is nothing to be added. -/
theorem plusL_next (by_ : List Int) : ∀ (l : List Int) (k j : Nat), k + by_.length ≤ j → iAt (plusL l k by_) j = iAt l j := by
  induction by_ with
  | nil => intro l k j h; rfl
  | cons v r ih => intro l k j h; simp at h; rw [plusL, ih _ _ _ (by omega), addL_ne _ _ _ _ (by omega)]

/-- How a path stands to another one. -/
def standL (q p : List Int) : Int := if leftL q p then 1 else if samI q p then 2 else if aboveL q p then 3 else 0
set_option maxRecDepth 4000 in
theorem standL_left (q p : List Int) : standL q p = 1 ↔ leftL q p = true := by unfold standL; split <;> rename_i h <;> simp [h]; split <;> (try split) <;> simp
set_option maxRecDepth 4000 in
theorem same_left (p : List Int) : leftL p p = false := by
  cases h : leftL p p
  · rfl
  · rw [leftL_iff] at h; omega
set_option maxRecDepth 4000 in
theorem above_left {q p : List Int} (h : aboveL q p = true) : leftL q p = false := by
  cases h2 : leftL q p
  · rfl
  · rw [leftL_iff] at h2
    rw [aboveL_iff, ← alikeN_prefix] at h
    omega
set_option maxRecDepth 4000 in
theorem above_same {q p : List Int} (h : aboveL q p = true) : samI q p = false := by
  cases h2 : samI q p
  · rfl
  · unfold samI at h2
    rw [of_decide_eq_true h2] at h
    rw [aboveL_iff] at h
    omega
set_option maxRecDepth 4000 in
theorem standL_cases (q p : List Int) : (standL q p = 1 ∧ leftL q p = true ∧ samI q p = false ∧ aboveL q p = false) ∨ (standL q p = 2 ∧ leftL q p = false ∧ samI q p = true ∧ aboveL q p = false) ∨ (standL q p = 3 ∧ leftL q p = false ∧ samI q p = false ∧ aboveL q p = true) ∨ (standL q p = 0 ∧ leftL q p = false ∧ samI q p = false ∧ aboveL q p = false) := by
  unfold standL
  cases h1 : leftL q p
  · cases h2 : samI q p
    · cases h3 : aboveL q p
      · simp
      · simp
    · have : q = p := by unfold samI at h2; exact of_decide_eq_true h2
      subst this
      have : aboveL q q = false := by
        cases h3 : aboveL q q
        · rfl
        · rw [aboveL_iff] at h3; omega
      simp [this]
  · have h2 : samI q p = false := by
      cases h2 : samI q p
      · rfl
      · unfold samI at h2
        rw [of_decide_eq_true h2, same_left] at h1; cases h1
    have h3 : aboveL q p = false := by
      cases h3 : aboveL q p
      · rfl
      · rw [above_left h3] at h1; cases h1
    simp [h2, h3]

/-- What Move answers: a list, and whether it is told. -/
def noR : List Int × Bool := ([], false)
/-- By an operation at q that moves no node elsewhere, all numbers being small. -/
def moveB (k : Int) (q : List Int) (pos : Int) (p : List Int) : List Int × Bool :=
  if q.length = 0 then (p, true)
  else if k = 1 then (if standL q p = 0 then (p, true) else (plusL p (q.length - 1) [1], true))
  else if k = 2 then (if standL q p = 0 then (p, true) else if standL q p = 1 then (plusL p (q.length - 1) [-1], true) else noR)
  else if k = 3 then (if lastL q = 0 then noR else if standL q p = 0 then (p, true) else if standL q p = 3 then (plusL p (q.length - 1) [-1, pos], true) else (plusL p (q.length - 1) [-1], true))
  else if k = 4 then (if standL q p = 1 then (plusL p (q.length - 1) [1], true) else if standL q p = 3 ∧ pos ≤ iAt p q.length then (plusL p (q.length - 1) [1, -pos], true) else (p, true))
  else (p, true)
def moveL (k : Int) (q t : List Int) (pos : Int) (p : List Int) : List Int × Bool :=
  if smallI p && smallI q && smallI t && smallN pos then
    if k = 5 ∧ q.length ≠ 0 then (if standL q p = 2 ∨ standL q p = 3 then (t ++ p.drop q.length, true) else moveB 1 t 0 (moveB 2 q 0 p).1)
    else moveB k q pos p
  else noR

end Go.Proofs.Ytmglnjmnabjjgaa

namespace Go.Proofs.Ytmglnjmnabjjgaa
open Go.RowKit

/-- An operation. -/
structure OpP where
  k : Int
  q : List Int
  t : List Int
  z : Int
  n : NT
  o : List Pr
  w : List Pr
  x : List Int
  f : Sl
  g : Sl
def zeroS : Sl := ⟨false, ([], 0), ([], 0)⟩
def zeroO : OpP := ⟨0, [], [], 0, zeroT, [], [], [], zeroS, zeroS⟩
end Go.Proofs.Ytmglnjmnabjjgaa
