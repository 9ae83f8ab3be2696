/- All paths of a tree: plain functions; rows of paths of the call's own. The document's With, and its paths. The walk of all paths: what its variables hold. -/
import Derived.Test.YtdjajpookmmafaaTLives
import Derived.Test.YtdjajpookmmafaaIBase
import Derived.ArgAppend
namespace Go.Proofs.Ytdjajpookmmafaa
open Go.RowKit
open Go.WideShapes (add_plain)

mutual
/-- The paths of a node at a path, and of all in it; the leaves' alone, if lv. -/
def pathsN (lv : Bool) : NT → List Int → List (List Int)
  | .mk lf _ _ ks, q => (if lf || !lv then [q] else []) ++ pathsK lv ks 0 q
def pathsK (lv : Bool) : List NT → Nat → List Int → List (List Int)
  | [], _, _ => []
  | k :: r, i, q => pathsN lv k (q ++ [(i : Int)]) ++ pathsK lv r (i + 1) q
end
set_option maxRecDepth 4000 in
theorem pathsN_eta (lv : Bool) (n : NT) (q : List Int) : pathsN lv n q = (if n.lf || !lv then [q] else []) ++ pathsK lv n.ks 0 q := by cases n; rw [pathsN]; rfl
set_option maxRecDepth 4000 in
theorem pathsK_append (lv : Bool) : ∀ (a b : List NT) (i : Nat) (q : List Int), pathsK lv (a ++ b) i q = pathsK lv a i q ++ pathsK lv b (i + a.length) q
  | [], b, i, q => by simp [pathsK]
  | k :: r, b, i, q => by rw [List.cons_append, pathsK, pathsK, pathsK_append lv r b (i + 1) q, List.append_assoc, List.length_cons, show i + 1 + r.length = i + (r.length + 1) by omega]
set_option maxRecDepth 4000 in
theorem pathsK_step (lv : Bool) {ks : List NT} {k : Nat} {m : NT} (h : ks[k]? = some m) (q : List Int) : pathsK lv (ks.take (k + 1)) 0 q = pathsK lv (ks.take k) 0 q ++ pathsN lv m (q ++ [(k : Int)]) := by
  have hk := (List.getElem?_eq_some_iff.1 h).1
  rw [take_one h, pathsK_append, List.length_take, show 0 + min k ks.length = k by omega]
  simp [pathsK]
set_option maxRecDepth 4000 in
mutual
theorem pathsN_len (lv : Bool) : ∀ (n : NT) (q : List Int), (pathsN lv n q).length ≤ sizeT n
  | .mk lf _ tx ks, q => by
    have := pathsK_len lv ks 0 q
    rw [pathsN, List.length_append, sizeT]
    split <;> simp <;> omega
theorem pathsK_len (lv : Bool) : ∀ (ks : List NT) (i : Nat) (q : List Int), (pathsK lv ks i q).length ≤ sizeK ks
  | [], i, q => by simp [pathsK, sizeK]
  | k :: r, i, q => by
    have h1 := pathsN_len lv k (q ++ [(i : Int)])
    have h2 := pathsK_len lv r (i + 1) q
    rw [pathsK, List.length_append, sizeK]; omega
end
set_option maxRecDepth 4000 in
mutual
theorem pathsN_each (lv : Bool) : ∀ (n : NT) (q p : List Int), p ∈ pathsN lv n q → p.length ≤ q.length + sizeT n
  | .mk lf _ tx ks, q, p => fun h => by
    rw [pathsN, List.mem_append] at h
    rw [sizeT]
    rcases h with h | h
    · split at h
      · simp at h; subst h; omega
      · cases h
    · have := pathsK_each lv ks 0 q p h; omega
theorem pathsK_each (lv : Bool) : ∀ (ks : List NT) (i : Nat) (q p : List Int), p ∈ pathsK lv ks i q → p.length ≤ q.length + 1 + sizeK ks
  | [], i, q, p => fun h => by cases h
  | k :: r, i, q, p => fun h => by
    rw [pathsK, List.mem_append] at h
    rw [sizeK]
    rcases h with h | h
    · have := pathsN_each lv k _ p h
      simp at this; omega
    · have := pathsK_each lv r (i + 1) q p h; omega
end
set_option maxRecDepth 4000 in
theorem sizeK_le_take {ks : List NT} {k : Nat} : sizeK (ks.take k) ≤ sizeK ks := by
  have : sizeK ks = sizeK (ks.take k) + sizeK (ks.drop k) := by rw [← sizeK_append, List.take_append_drop]
  omega
set_option maxRecDepth 4000 in
theorem sizeT_kid {ks : List NT} {k : Nat} {m : NT} (h : ks[k]? = some m) : sizeT m ≤ sizeK ks := by
  have e : sizeK ks = sizeK (ks.take k) + sizeK (ks.drop k) := by rw [← sizeK_append, List.take_append_drop]
  rw [drop_one h] at e
  simp only [sizeK] at e
  omega

set_option maxRecDepth 4000 in
theorem intG : ElemG 22 3 1 8 := ⟨Try.underlying22, by
  obtain ⟨i0, hi, hz0, hz1, hz2⟩ := info_parts intInfo
  exact ⟨i0, _, hi, hz0, hz1, hz2, rfl⟩, by decide⟩
set_option maxRecDepth 4000 in
theorem rowG : ElemG 86 22 1 24 := ⟨Try.underlying86, by
  obtain ⟨i0, hi, hz0, hz1, hz2⟩ := info_parts rowInfo
  exact ⟨i0, _, hi, hz0, hz1, hz2, rfl⟩, by decide⟩

/-- The value v is a row of the call's own (blocks from b on) of the paths L, each of them a row in blocks from e on. -/
def OwnQ (w : World) (b e : Nat) (v : Value) (L : List (List Int)) : Prop :=
  ∃ (vs : List Value), vs.length = L.length ∧ w.ownsRow b 22 1 v L.length vs ∧ ∀ k u, vs[k]? = some u → OwnI w e u (lAt L k)
set_option maxRecDepth 4000 in
theorem OwnQ.nil (w : World) (b e : Nat) : OwnQ w b e (.slice none 0 0) [] := ⟨[], rfl, World.ownsRow_nil w b 22 1, by simp⟩
set_option maxRecDepth 4000 in
theorem ownsRow_below {w w' : World} {b n size : Nat} {t : TypeId} {v : Value} {xs : List Value} (h : w.ownsRow b t size v n xs) (hb : Below w.heap.size w w') : w'.ownsRow b t size v n xs := by
  refine ⟨h.1, ?_⟩
  rcases h.2 with h4 | ⟨g, cap, cur, e2, hbg, hg, rest⟩
  · exact .inl h4
  · exact .inr ⟨g, cap, cur, e2, hbg, by rw [hb.block g (Array.getElem?_eq_some_iff.1 hg).1]; exact hg, rest⟩
set_option maxRecDepth 4000 in
theorem ownsRow_weaken {w : World} {b b' n size : Nat} {t : TypeId} {v : Value} {xs : List Value} (h : w.ownsRow b t size v n xs) (hb : b' ≤ b) : w.ownsRow b' t size v n xs := by
  refine ⟨h.1, ?_⟩
  rcases h.2 with h4 | ⟨g, cap, cur, e2, hbg, rest⟩
  · exact .inl h4
  · exact .inr ⟨g, cap, cur, e2, by omega, rest⟩
set_option maxRecDepth 4000 in
theorem OwnQ.below {w w' : World} {b e : Nat} {v : Value} {L : List (List Int)} (h : OwnQ w b e v L) (hb : Below w.heap.size w w') : OwnQ w' b e v L := by
  obtain ⟨vs, h1, h2, h3⟩ := h
  exact ⟨vs, h1, ownsRow_below h2 hb, fun k u hu => (h3 k u hu).below hb⟩
set_option maxRecDepth 4000 in
theorem OwnQ.weaken {w : World} {b b' e e' : Nat} {v : Value} {L : List (List Int)} (h : OwnQ w b e v L) (hb : b' ≤ b) (he : e' ≤ e) : OwnQ w b' e' v L := by
  obtain ⟨vs, h1, h2, h3⟩ := h
  exact ⟨vs, h1, ownsRow_weaken h2 hb, fun k u hu => (h3 k u hu).weaken he⟩
set_option maxRecDepth 4000 in
theorem OwnQ.lt {w : World} {b e : Nat} {v : Value} {L : List (List Int)} (h : OwnQ w b e v L) {j : Nat} (hj : v.ownBlock = some j) : b ≤ j ∧ j < w.heap.size := by
  obtain ⟨vs, _, h2, _⟩ := h
  exact h2.lt j hj
set_option maxRecDepth 4000 in
theorem OwnQ.form {w : World} {b e : Nat} {v : Value} {L : List (List Int)} (h : OwnQ w b e v L) : ∃ (A : Option Addr) (c : Nat), v = .slice A L.length c ∧ L.length ≤ c := by
  obtain ⟨vs, _, h2, _⟩ := h
  obtain ⟨A, c, h3, h4, _⟩ := own_free h2
  exact ⟨A, c, h3, h4⟩
set_option maxRecDepth 4000 in
theorem OwnQ.rl {w : World} {b e : Nat} {A : Option Addr} {n c : Nat} {L : List (List Int)} (h : OwnQ w b e (.slice A n c) L) : RL w w.heap.size A L := by
  obtain ⟨vs, h1, h2, h3⟩ := h
  rcases h2.2 with ⟨e1, h0⟩ | ⟨g, cap, cur, e1, hbg, hg, hnc, _⟩
  · exact fun hn => absurd (List.eq_nil_of_length_eq_zero h0) hn
  · injection e1 with e1 e2 e3
    subst e1
    refine fun _ => ⟨g, 0, rfl, (Array.getElem?_eq_some_iff.1 hg).1, fun k hk => ?_⟩
    have hv : vs[k]? = some vs[k] := List.getElem?_eq_getElem (by omega)
    have hc := h2.cells (g := g) rfl k _ hv
    rw [add_plain] at hc
    obtain ⟨Ak, ck, e2, h5, _, h7⟩ := (h3 k _ hv).open_
    rw [e2] at hc
    exact ⟨Ak, ck, hc, h5, h7⟩
set_option maxRecDepth 4000 in
theorem lAt_append_left {L M : List (List Int)} {k : Nat} (h : k < L.length) : lAt (L ++ M) k = lAt L k := by
  rw [lAt_eq _ k (by simp; omega), lAt_eq L k h, List.getElem_append_left h]
set_option maxRecDepth 4000 in
theorem lAt_append_right {L M : List (List Int)} {k : Nat} (h : L.length ≤ k) (h2 : k < (L ++ M).length) : lAt (L ++ M) k = lAt M (k - L.length) := by
  rw [lAt_eq _ k h2, List.getElem_append_right h, lAt_eq M _ (by simp at h2; omega)]
set_option maxRecDepth 4000 in
/-- Rows one behind the other. -/
theorem OwnQ.join {w w' : World} {b e n m c' : Nat} {v : Value} {A' : Option Addr} {L M : List (List Int)} {vs ms : List Value} (h1 : vs.length = L.length) (h2 : w.ownsRow b 22 1 v n vs) (h3 : ∀ k u, vs[k]? = some u → OwnI w e u (lAt L k))
    (g1 : ms.length = M.length) (g3 : ∀ k u, ms[k]? = some u → OwnI w e u (lAt M k)) (hn : n = L.length) (hm : m = M.length) (hown : w'.ownsRow b 22 1 (.slice A' (n + m) c') (n + m) (vs ++ ms)) (hgrow : w.grownBy w' v.ownBlock) : OwnQ w' b e (.slice A' (n + m) c') (L ++ M) := by
  subst hn hm
  refine ⟨vs ++ ms, by rw [List.length_append, List.length_append, h1, g1], by rw [List.length_append]; exact hown, fun k u hu => ?_⟩
  have hk := (List.getElem?_eq_some_iff.1 hu).1
  rcases Nat.lt_or_ge k L.length with hl | hl
  · rw [List.getElem?_append_left (by omega)] at hu
    rw [lAt_append_left hl]
    exact (h3 k u hu).grown h2 hgrow
  · rw [List.getElem?_append_right (by omega), h1] at hu
    rw [lAt_append_right hl (by simp at hk ⊢; omega)]
    exact (g3 _ u hu).grown h2 hgrow
set_option maxRecDepth 4000 in
theorem own_cells {w : World} {e : Nat} {vs : List Value} {L : List (List Int)} (_h1 : vs.length = L.length) (h3 : ∀ k u, vs[k]? = some u → OwnI w e u (lAt L k)) : ∀ u ∈ vs, u.oneCell' = true := fun u hu => by
  obtain ⟨k, hk, rfl⟩ := List.mem_iff_getElem.1 hu
  obtain ⟨A, c, e, _⟩ := h3 k _ (List.getElem?_eq_getElem hk)
  rw [e]; rfl
set_option maxRecDepth 4000 in
theorem own_vl {w : World} {b n c : Nat} {A : Option Addr} {t : TypeId} {vs : List Value} (h : w.ownsRow b t 1 (.slice A n c) n vs) : VL w w.heap.size A vs := fun hn => by
  rcases h.2 with ⟨e1, h0⟩ | ⟨g, cap, cur, e1, hbg, hg, hnc, _⟩
  · have := h.1; rw [h0] at this
    exact absurd (List.eq_nil_of_length_eq_zero (by simpa using this)) hn
  · injection e1 with e1 e2 e3
    subst e1
    refine ⟨g, 0, rfl, (Array.getElem?_eq_some_iff.1 hg).1, fun k u hk => ?_⟩
    have := h.cells (g := g) rfl k u hk
    rwa [add_plain] at this

set_option maxRecDepth 4000 in
/-- A number more. -/
theorem OwnI.join {w' : World} {b n m c' : Nat} {A' : Option Addr} {l r : List Int} (hn : n = l.length) (hm : m = r.length) (hown : w'.ownsRow b 3 1 (.slice A' (n + m) c') (n + m) (l.map (Value.int .i64) ++ r.map (Value.int .i64))) : OwnI w' b (.slice A' (n + m) c') (l ++ r) :=
  OwnI.of_own (n := n + m) (by rw [List.map_append]; exact hown) (by rw [List.length_append, hn, hm])

end Go.Proofs.Ytdjajpookmmafaa

namespace Go.Proofs.Ytdjajpookmmafaa
open Go.RowKit
open Go.WideShapes (add_plain)

theorem il_vl {w : World} {B : Nat} {A : Option Addr} {l : List Int} (h : IL w B A l) : VL w B A (l.map (Value.int .i64)) := fun hn => by
  obtain ⟨b, o, e, hb, hc⟩ := h (by rintro rfl; exact hn rfl)
  refine ⟨b, o, e, hb, fun k u hu => ?_⟩
  have hk : k < l.length := by have := (List.getElem?_eq_some_iff.1 hu).1; simpa using this
  rw [hc k hk, ← hu]
  simp [iAt_eq l k hk, hk]
set_option maxRecDepth 4000 in
theorem ints_one (l : List Int) : ∀ u ∈ l.map (Value.int .i64), u.oneCell' = true := fun u hu => by
  obtain ⟨x, _, rfl⟩ := List.mem_map.1 hu
  rfl
set_option maxRecDepth 4000 in
theorem OwnI.il_at {w w' : World} {e n c : Nat} {A : Option Addr} {l : List Int} (h : OwnI w e (.slice A n c) l) (hb : Below w.heap.size w w') : IL w' w'.heap.size A l := by
  obtain ⟨A', c', e1, _, _, h1⟩ := (h.below hb).open_
  injection e1 with e1 _ _
  rw [e1]; exact h1

set_option maxRecDepth 4000 in
theorem icopy_big (A : Option Addr) (l : List Int) (n c : Nat) (w : World) (hn : l.length = n) (hl : n ≤ 2000000) (hp : IL w w.heap.size A l) :
    Calls Try.prog 52 #[.slice A n c] w (NewP w l) := by
  have HP := hd hp
  have HN := hd hn
  clear hp hn
  go_enter Try.func52, Try.ntmps52
  go_wp2_with (at_builtin; refine wpList_append_G0 intG w rfl _ _ rfl w.heap.size rfl A n c w.heap.size (l.map (Value.int .i64)) rfl (by rw [List.length_map, HN.out]; omega) (il_vl HP.out) (ints_one l) (by unfold maxLen; omega) (by omega) (Nat.le_refl _) ?_; intro A' c' w1 ho1 hb1 _; have HO1 := hd (OwnI.of_own ho1 HN.out.symm); have HB1 := hd hb1; clear ho1 hb1)
  go_ret
  exact ⟨_, rfl, HO1.out, HB1.out⟩

set_option maxRecDepth 4000 in
theorem cell_new_drew (w : World) (x : Value) (t : TypeId) {g : Nat} (hg : g = w.heap.size) : ((w.alloc (.cells #[x] t)).drew).cell? ⟨g, 0, none⟩ = some x := by
  subst hg
  show (w.alloc (.cells #[x] t)).cell? _ = _
  rw [World.cell?_alloc_at _ _ _ _ rfl]; rfl
set_option maxRecDepth 4000 in
theorem two_new (w : World) (o : Obj) (x : Value) (t : TypeId) : VL ((w.alloc o).alloc (.cells #[x] t)) (w.heap.size + 2) (some ⟨w.heap.size + 1, 0, none⟩) [x] := by
  have := VL_new (w.alloc o) t [x]
  rw [show (w.alloc o).heap.size = w.heap.size + 1 by simp] at this
  exact this
set_option maxRecDepth 4000 in
theorem one_own {w : World} {e : Nat} {u0 : Value} {q : List Int} (h : OwnI w e u0 q) : ∀ k u, [u0][k]? = some u → OwnI w e u (lAt [q] k) := fun k u hu => by
  match k, hu with
  | 0, hu => simp at hu; subst hu; exact h
  | k + 1, hu => simp at hu
/-- A new row of paths. -/
def NewQ (e : Nat) (L : List (List Int)) (w : World) (en : Ending) (w' : World) : Prop :=
  ∃ A c, en = .returned (.slice A L.length c) ∧ OwnQ w' w.heap.size e (.slice A L.length c) L ∧ Below w.heap.size w w'

end Go.Proofs.Ytdjajpookmmafaa

namespace Go.Proofs.Ytdjajpookmmafaa
open Go.RowKit
open Go.WideShapes (add_plain)

/-- Where the variables lie. -/
structure Bx (B gq go gh gw : Nat) : Prop where
  q : B ≤ gq
  o : B ≤ go
  h : B ≤ gh
  k : B ≤ gw
  oq : go ≠ gq
  oh : go ≠ gh
  ok : go ≠ gw
  hq : gh ≠ gq
  hk : gh ≠ gw
set_option maxRecDepth 4000 in
theorem OwnI.set {w : World} {B g k : Nat} {u x : Value} {l : List Int} {cs : Array Value} {t : TypeId} {fr : Nat × Nat} (h : OwnI w B u l) (hg : w.heap[g]? = some (.cells cs t fr)) (ht : t ≠ 3) : OwnI (w.setCell ⟨g, k, none⟩ x) B u l := by
  refine OwnI.of_own (ownsRow_setCell_other h.own (a := ⟨g, k, none⟩) (fun e => ?_) _) rfl
  rcases h.own.2 with ⟨e1, _⟩ | ⟨g', cap, cur, e1, _, hg', _⟩
  · rw [e1] at e; cases e
  · rw [e1] at e
    injection e with e
    have e : g' = g := e
    subst e
    rw [hg] at hg'
    injection hg' with hg'
    injection hg' with _ h2
    exact ht h2
set_option maxRecDepth 4000 in
theorem OwnI.kept {w w' : World} {B : Nat} {u : Value} {l : List Int} {o : Option Nat} (h : OwnI w B u l) (hg : w.grownBy w' o) (hne : ∀ j, u.ownBlock = some j → o ≠ some j) : OwnI w' B u l := by
  refine OwnI.of_own (h.own.kept hg ?_) rfl
  cases hu : u.ownBlock with
  | none => exact .inl rfl
  | some j => exact .inr (fun e => hne j hu e.symm)
set_option maxRecDepth 4000 in
theorem OwnI.less {w : World} {B n c : Nat} {A : Option Addr} {l : List Int} {i : Int} (h : OwnI w B (.slice A (n + 1) c) (l ++ [i])) (hn : l.length = n) : OwnI w B (.slice A n c) l := by
  have h1 := h.own
  rw [List.length_append, hn] at h1
  refine OwnI.of_own (n := n) ⟨by simp [hn], ?_⟩ hn.symm
  rcases h1.2 with ⟨_, e0⟩ | ⟨g, cap, cur, e, hB, hg, hc, hm, hs, hx⟩
  · simp at e0
  · injection e with e1 e2 e3
    refine .inr ⟨g, cap, cur, by rw [e1, e3], hB, hg, by simp at hc; omega, hm, hs, ?_⟩
    have h2 := congrArg (List.take (n * 1)) hx
    rw [List.take_take, show min (n * 1) ((n + [i].length) * 1) = n * 1 by simp] at h2
    rw [h2, List.map_append, List.take_append_of_le_length (by simp [hn]), List.take_of_length_le (by simp [hn])]
set_option maxRecDepth 4000 in
theorem own_type {w : World} {b n size g : Nat} {t t' : TypeId} {v : Value} {xs : List Value} {cs : Array Value} {fr : Nat × Nat} (h : w.ownsRow b t size v n xs) (hg : w.heap[g]? = some (.cells cs t' fr)) (ht : t' ≠ t) : v.ownBlock ≠ some g := fun e => by
  rcases h.2 with ⟨e1, _⟩ | ⟨g', cap, cur, e1, _, hg', _⟩
  · rw [e1] at e; cases e
  · rw [e1] at e
    injection e with e
    have e : g' = g := e
    subst e
    rw [hg] at hg'
    injection hg' with hg'
    injection hg' with _ h2
    exact ht h2

section
variable {B gq go gh gw : Nat} {fid : FuncId} {w wx w2 : World} {vo vh : Value} {L : List (List Int)} {h : List Int}
end

theorem step_append_grows {ts te : TypeId} {size by_ : Nat} (E : ElemG ts te size by_) (W : World) {ops : Array Oper} {o : Oper} {a : Act} {K : Act → World → Prop} {Q : Exit → Act → World → Prop} {F : Prop} (hgd : o.guard = none) (s x : Operand)
    (ho : o.op = .call { callee := .builtin .append, args := #[s, x], argTypes := #[ts, ts] })
    (ao : Option Addr) (n cap : Nat) (olds : List Value) (hs : a.eval s = .slice ao n cap) (hnone : ao = none → n = 0 ∧ cap = 0) (hlo : olds.length = n * size) (holds : ∀ b, ao = some b → ∀ j u, olds[j]? = some u → W.cell? (b.add j) = some u)
    (ad : Addr) (m c : Nat) (news : List Value) (hx : a.eval x = .slice (some ad) m c) (hn : news.length = m * size) (hc : ∀ j u, news[j]? = some u → W.cell? (ad.add j) = some u) (h1c : ∀ u ∈ news, u.oneCell' = true)
    (hfull : cap < n + m) (b1 : n + m ≤ maxLen) (b2 : (n + m) * by_ ≤ 140737488355328)
    (hK : ∀ v' w', w'.ownsRow W.heap.size te size v' (n + m) (olds ++ news) → W.grownBy w' none → K (a.put o.dst v') w') :
    if Region.wanted o (yielded ops a.tmps) = true then Oper.wp Try.prog o a W K Q else F := by
  have hw : Region.wanted o (yielded ops a.tmps) = true := by simp [Region.wanted, hgd]
  rw [if_pos hw]
  obtain ⟨i, z, h2, h3, h4, h5, h6⟩ := E.info
  cases ao with
  | some b =>
    obtain ⟨v', w', hrun, r1, r2⟩ := run_append_arg_grows (P := Try.prog) W ts o.type te i z size by_ E.under h2 h3 h4 h5 h6 E.pos b n cap olds hlo (holds b rfl) ad m c news hn hc hfull b1 b2
    unfold Oper.wp
    simp [execOp, ho, resolve, invoke, builtin, hs, hx, hrun, Result.andThen]
    exact hK v' w' r1 r2
  | none =>
    obtain ⟨rfl, rfl⟩ := hnone rfl
    obtain rfl : olds = [] := List.eq_nil_of_length_eq_zero (by simpa using hlo)
    obtain ⟨v', w', hrun, r1, r2, _⟩ := run_append_own (P := Try.prog) W W.heap.size ts o.type te i z size by_ E.under h2 h3 h4 h5 h6 E.pos (.slice none 0 0) 0 [] (World.ownsRow_nil W _ te size) ad m c news hn hc h1c b1 b2 (Nat.le_refl _)
    unfold Oper.wp
    simp [execOp, ho, resolve, invoke, builtin, hs, hx, hrun, Result.andThen]
    exact hK v' w' r1 r2
set_option maxRecDepth 4000 in
theorem one_cell {w : World} {g : Nat} {v : Value} {t : TypeId} (h : w.heap[g]? = some (.cells #[v] t (0, 0))) : w.cell? ⟨g, 0, none⟩ = some v ∧ w.frozen? ⟨g, 0, none⟩ = false := by
  constructor <;> simp [World.cell?, World.frozen?, h]
set_option maxRecDepth 4000 in
theorem own_olds {w : World} {B n c : Nat} {A : Option Addr} {l : List Int} (h : OwnI w B (.slice A n c) l) (hn : l.length = n) : (∀ w', Below w.heap.size w w' → A = none → n = 0 ∧ n = 0) ∧ (l.map (Value.int .i64)).length = n * 1 ∧ ∀ w', Below w.heap.size w w' → ∀ b, A = some b → ∀ j u, (l.map (Value.int .i64))[j]? = some u → w'.cell? (b.add j) = some u := by
  have hown := h.own
  rw [hn] at hown
  refine ⟨fun _ _ e => ?_, by simp [hn], fun w' hb b e j u hu => ?_⟩
  · rcases hown.2 with ⟨_, e0⟩ | ⟨g, cap, cur, e1, _⟩
    · exact ⟨e0, e0⟩
    · rw [e] at e1; injection e1 with e1; cases e1
  · obtain ⟨b', o', e2, hlt, hc⟩ := own_vl hown (fun e0 => by rw [e0] at hu; simp at hu)
    rw [e] at e2
    injection e2 with e2
    subst e2
    rw [add_plain]
    exact (hb.cell (p := ⟨b', o' + j, none⟩) hlt).trans (hc j u hu)
set_option maxRecDepth 4000 in
theorem new_cells (w : World) (x : Value) (t : TypeId) : ∀ j u, [x][j]? = some u → (w.alloc (.cells #[x] t)).cell? ((⟨w.heap.size, 0, none⟩ : Addr).add j) = some u := fun j u hu => by
  match j, hu with
  | 0, hu =>
    simp at hu
    subst hu
    rw [add_plain, Nat.zero_add, World.cell?_alloc_at _ _ _ _ rfl]; rfl
  | j + 1, hu => simp at hu
/-- What is asked of a node. -/
structure Ask (fid : FuncId) (lv : Bool) : Prop where
  enters : ∀ args w, (callFunc fid args).run Try.prog w = .ok (.enter fid args) w
  does : ∀ d w v n, NodeAt d w w.heap.size v n → Calls Try.prog fid #[v] w (Still (.bool (n.lf || !lv)) w)
section
variable {P : Program} {ops : Array Oper} {Q : Exit → Act → World → Prop} {S : World → Prop} {z : Nat}
/-- Whatever order is picked from here on; S holds behind every operation but number z. -/
def wpAnyZ (P : Program) (ops : Array Oper) (Q : Exit → Act → World → Prop) (S : World → Prop) (z : Nat) : Nat → Array Bool → Act → World → Prop
  | 0, listed, a, w => Region.ready .any ops listed = [] ∧ Q .normal a w
  | n + 1, listed, a, w => (Region.ready .any ops listed = [] → Q .normal a w) ∧
      ∀ i ∈ Region.ready .any ops listed, wpOp P ops Q i (fun a' w' => (i ≠ z → S w') ∧ wpAnyZ P ops Q S z n (listed.setIfInBounds i true) a' w') a w
set_option maxRecDepth 4000 in
theorem any_of_Z : ∀ (n : Nat) (listed : Array Bool) (a : Act) (w : World), wpAnyZ P ops Q S z n listed a w → wpAny P .any ops Q n listed a w
  | 0, _, _, _, h => h
  | n + 1, _, _, _, h => ⟨h.1, fun i hi => wpOp_mono (fun a' w' h' => any_of_Z n _ a' w' h'.2) (h.2 i hi)⟩
/-- Operation z waits for operation i. -/
def waitsZ (ops : Array Oper) (z i : Nat) : Bool := match ops[z]? with
  | some o => o.after.toList.any fun e => Region.binds .any e && e.on == i
  | none => false
set_option maxRecDepth 4000 in
/-- What z waits for, and yields the same in every world that meets S, may be taken first. -/
theorem Z_first {i : Nat} {oi : Oper} {v : Value} (hi : ops[i]? = some oi) (hsel : Region.noSelect ops = true) (hz : waitsZ ops z i = true)
    (hQ : ∀ c a w, Q (.panic c) (a.put oi.dst v) w → Q (.panic c) a w) :
    ∀ (n : Nat) (listed : Array Bool) (a : Act) (w : World),
      (∀ j oj, ops[j]? = some oj → j ≠ i → listed.getD j true = false → (∀ e ∈ oj.after, Region.binds .any e = true → e.on ≠ i) → oi.apart ops oj = true) →
      i ∈ Region.ready .any ops listed → YieldsIf P ops S oi v a → S w →
      wpAnyZ P ops Q S z n (listed.setIfInBounds i true) (a.put oi.dst v) w → wpAnyZ P ops Q S z (n + 1) listed a w := by
  have sel := Region.noSelect_spec hsel
  intro n
  induction n with
  | zero =>
    intro listed a w _ hr hy hS H
    refine ⟨fun h => absurd hr (by rw [h]; simp), fun j hj => ?_⟩
    rcases Classical.em (j = i) with e | e
    · subst e; exact hy.wpOp hi hS ⟨fun _ => hS, H⟩
    · have := ready_mono hj e
      rw [H.1] at this; cases this
  | succ n ih =>
    intro listed a w hfree hr hy hS H
    refine ⟨fun h => absurd hr (by rw [h]; simp), fun j hj => ?_⟩
    rcases Classical.em (j = i) with e | e
    · subst e; exact hy.wpOp hi hS ⟨fun _ => hS, H⟩
    · obtain ⟨hjun, oj, hoj, hall⟩ := mem_ready.1 hj
      have hiun := (mem_ready.1 hr).1
      have hno : ∀ e ∈ oj.after, Region.binds .any e = true → e.on ≠ i := fun x hx hb heq => by
        have h1 := hall x hx hb
        rw [heq] at h1
        rcases Nat.lt_or_ge i listed.size with h' | h'
        · simp [h'] at hiun h1; rw [hiun] at h1; cases h1
        · simp [Array.getElem?_eq_none h'] at h1
      have hjz : j ≠ z := fun ez => by
        subst ez
        unfold waitsZ at hz
        rw [hoj] at hz
        obtain ⟨x, hx, hx2⟩ := List.any_eq_true.1 hz
        simp only [Bool.and_eq_true, beq_iff_eq] at hx2
        exact hno x (by simpa using hx) hx2.1 hx2.2
      have h2 := wpOp_putIf hoj (hfree j oj hoj e hjun hno) (fun cs b => sel i oi cs b hi) (fun cs b => sel j oj cs b hoj) hQ hy (H.2 j (ready_mono hj e))
      refine wpOp_mono (fun a' w' h3 => ⟨h3.2.1, ih (listed.setIfInBounds j true) a' w' (fun k ok hk hki hun hn => hfree k ok hk hki ?_ hn) (ready_mono hr (Ne.symm e)) h3.1 (h3.2.1 hjz) ?_⟩) h2
      · rcases Classical.em (j = k) with ek | ek
        · subst ek; exact hjun
        · rw [getD_set_ne true ek] at hun; exact hun
      · rw [Array.setIfInBounds_comm _ _ e]; exact h3.2.2
set_option maxRecDepth 4000 in
theorem Z_take {i : Nat} {oi : Oper} (v : Value) {n : Nat} {listed : Array Bool} {a : Act} {w : World} (hi : ops[i]? = some oi) (hs : Region.noSelect ops = true) (hz : waitsZ ops z i = true) (hf : Region.free .any ops listed i = true) (hr : (Region.ready .any ops listed).contains i = true)
    (hQ : ∀ c a w, Q (.panic c) (a.put oi.dst v) w → Q (.panic c) a w) (hw : Region.wanted oi (yielded ops a.tmps) = true) (hy : ∀ w, S w → (execOp a.eval oi).run P w = .ok (.value v) w) (hS : S w)
    (h : wpAnyZ P ops Q S z n (listed.setIfInBounds i true) (a.put oi.dst v) w) : wpAnyZ P ops Q S z (n + 1) listed a w :=
  Z_first hi hs hz hQ n listed a w (Region.free_spec hi hf) (by simpa using hr) (.inl ⟨hw, hy⟩) hS h
set_option maxRecDepth 4000 in
/-- Just one may come up. -/
theorem Z_one {i : Nat} {o : Oper} {n : Nat} {listed : Array Bool} {a : Act} {w : World} (hr : Region.ready .any ops listed = [i]) (hi : ops[i]? = some o)
    (h : ∀ K : Act → World → Prop, (∀ a' w', (i ≠ z → S w') → wpAnyZ P ops Q S z n (listed.setIfInBounds i true) a' w' → K a' w') → if Region.wanted o (yielded ops a.tmps) = true then Oper.wp P o a w K Q else False) : wpAnyZ P ops Q S z (n + 1) listed a w := by
  refine ⟨fun e => absurd (e.symm.trans hr) (by simp), fun j hj => ?_⟩
  rw [hr, List.mem_singleton] at hj
  subst hj
  have h1 := h (fun a' w' => (j ≠ z → S w') ∧ wpAnyZ P ops Q S z n (listed.setIfInBounds j true) a' w') (fun a' w' h1 h2 => ⟨h1, h2⟩)
  unfold wpOp
  simp only [hi]
  split
  · rename_i hw
    rw [if_pos hw] at h1
    exact .inl h1
  · rename_i hw
    rw [if_neg hw] at h1
    exact h1.elim
set_option maxRecDepth 4000 in
theorem Z_done {n : Nat} {listed : Array Bool} {a : Act} {w : World} (hr : Region.ready .any ops listed = []) (h : Q .normal a w) : wpAnyZ P ops Q S z n listed a w := by
  cases n with
  | zero => exact ⟨hr, h⟩
  | succ n => exact ⟨fun _ => h, by rw [hr]; simp⟩
set_option maxRecDepth 4000 in
theorem Z_start {id : Nat} {a : Act} {w : World} (hm : P.follows .mixedOrders = true) (h : wpAnyZ P ops Q S z ops.size (Array.replicate ops.size false) a w.drew) : (Code.region id ops true).wp P Q a w :=
  wp_region_any hm (any_of_Z _ _ _ _ h)
end

end Go.Proofs.Ytdjajpookmmafaa
