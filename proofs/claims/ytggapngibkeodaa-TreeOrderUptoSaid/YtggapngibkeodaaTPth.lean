/- All paths of a tree: plain functions; rows of paths of the call's own. -/
import Derived.Test.YtggapngibkeodaaTRow
import Derived.Test.YtggapngibkeodaaIRows
namespace Go.Proofs.Ytggapngibkeodaa
open Go.RowKit
open Go.WideShapes (add_plain)

mutual
/-- The paths of a node at a path, and of all in it; the leaves' alone, if lv. -/
def pathsN (lv : Bool) : NT → List Int → List (List Int)
  | .mk lf _ _ ks, q => (if lf || !lv then [q] else []) ++ pathsK lv ks 0 q
def pathsK (lv : Bool) : List NT → Nat → List Int → List (List Int)
  | [], _, _ => []
  | k :: r, i, q => pathsN lv k (q ++ [(i : Int)]) ++ pathsK lv r (i + 1) q
end
theorem pathsN_eta (lv : Bool) (n : NT) (q : List Int) : pathsN lv n q = (if n.lf || !lv then [q] else []) ++ pathsK lv n.ks 0 q := by cases n; rw [pathsN]; rfl
theorem pathsK_append (lv : Bool) : ∀ (a b : List NT) (i : Nat) (q : List Int), pathsK lv (a ++ b) i q = pathsK lv a i q ++ pathsK lv b (i + a.length) q
  | [], b, i, q => by simp [pathsK]
  | k :: r, b, i, q => by rw [List.cons_append, pathsK, pathsK, pathsK_append lv r b (i + 1) q, List.append_assoc, List.length_cons, show i + 1 + r.length = i + (r.length + 1) by omega]
theorem pathsK_step (lv : Bool) {ks : List NT} {k : Nat} {m : NT} (h : ks[k]? = some m) (q : List Int) : pathsK lv (ks.take (k + 1)) 0 q = pathsK lv (ks.take k) 0 q ++ pathsN lv m (q ++ [(k : Int)]) := by
  have hk := (List.getElem?_eq_some_iff.1 h).1
  rw [take_one h, pathsK_append, List.length_take, show 0 + min k ks.length = k by omega]
  simp [pathsK]
mutual
theorem pathsN_len (lv : Bool) : ∀ (n : NT) (q : List Int), (pathsN lv n q).length ≤ sizeT n
  | .mk lf _ tx ks, q => by
    have := pathsK_len lv ks 0 q
    rw [pathsN, List.length_append, sizeT]
    split <;> simp <;> omega
theorem pathsK_len (lv : Bool) : ∀ (ks : List NT) (i : Nat) (q : List Int), (pathsK lv ks i q).length ≤ sizeK ks
  | [], i, q => by simp [pathsK, sizeK]
  | k :: r, i, q => by
    have h1 := pathsN_len lv k (q ++ [(i : Int)])
    have h2 := pathsK_len lv r (i + 1) q
    rw [pathsK, List.length_append, sizeK]; omega
end
mutual
theorem pathsN_each (lv : Bool) : ∀ (n : NT) (q p : List Int), p ∈ pathsN lv n q → p.length ≤ q.length + sizeT n
  | .mk lf _ tx ks, q, p => fun h => by
    rw [pathsN, List.mem_append] at h
    rw [sizeT]
    rcases h with h | h
    · split at h
      · simp at h; subst h; omega
      · cases h
    · have := pathsK_each lv ks 0 q p h; omega
theorem pathsK_each (lv : Bool) : ∀ (ks : List NT) (i : Nat) (q p : List Int), p ∈ pathsK lv ks i q → p.length ≤ q.length + 1 + sizeK ks
  | [], i, q, p => fun h => by cases h
  | k :: r, i, q, p => fun h => by
    rw [pathsK, List.mem_append] at h
    rw [sizeK]
    rcases h with h | h
    · have := pathsN_each lv k _ p h
      simp at this; omega
    · have := pathsK_each lv r (i + 1) q p h; omega
end
theorem sizeK_le_take {ks : List NT} {k : Nat} : sizeK (ks.take k) ≤ sizeK ks := by
  have : sizeK ks = sizeK (ks.take k) + sizeK (ks.drop k) := by rw [← sizeK_append, List.take_append_drop]
  omega
theorem sizeT_kid {ks : List NT} {k : Nat} {m : NT} (h : ks[k]? = some m) : sizeT m ≤ sizeK ks := by
  have e : sizeK ks = sizeK (ks.take k) + sizeK (ks.drop k) := by rw [← sizeK_append, List.take_append_drop]
  rw [drop_one h] at e
  simp only [sizeK] at e
  omega

theorem intG : ElemG 27 3 1 8 := ⟨Try.underlying27, by
  obtain ⟨i0, hi, hz0, hz1, hz2⟩ := info_parts intInfo
  exact ⟨i0, _, hi, hz0, hz1, hz2, rfl⟩, by decide⟩
theorem rowG : ElemG 41 27 1 24 := ⟨Try.underlying41, by
  obtain ⟨i0, hi, hz0, hz1, hz2⟩ := info_parts rowInfo
  exact ⟨i0, _, hi, hz0, hz1, hz2, rfl⟩, by decide⟩

/-- The value v is a row of the call's own (blocks from b on) of the paths L, each of them a row in blocks from e on. -/
def OwnQ (w : World) (b e : Nat) (v : Value) (L : List (List Int)) : Prop :=
  ∃ (vs : List Value), vs.length = L.length ∧ w.ownsRow b 27 1 v L.length vs ∧ ∀ k u, vs[k]? = some u → OwnI w e u (lAt L k)
theorem OwnQ.nil (w : World) (b e : Nat) : OwnQ w b e (.slice none 0 0) [] := ⟨[], rfl, World.ownsRow_nil w b 27 1, by simp⟩
theorem ownsRow_below {w w' : World} {b n size : Nat} {t : TypeId} {v : Value} {xs : List Value} (h : w.ownsRow b t size v n xs) (hb : Below w.heap.size w w') : w'.ownsRow b t size v n xs := by
  refine ⟨h.1, ?_⟩
  rcases h.2 with h4 | ⟨g, cap, cur, e2, hbg, hg, rest⟩
  · exact .inl h4
  · exact .inr ⟨g, cap, cur, e2, hbg, by rw [hb.block g (Array.getElem?_eq_some_iff.1 hg).1]; exact hg, rest⟩
theorem ownsRow_weaken {w : World} {b b' n size : Nat} {t : TypeId} {v : Value} {xs : List Value} (h : w.ownsRow b t size v n xs) (hb : b' ≤ b) : w.ownsRow b' t size v n xs := by
  refine ⟨h.1, ?_⟩
  rcases h.2 with h4 | ⟨g, cap, cur, e2, hbg, rest⟩
  · exact .inl h4
  · exact .inr ⟨g, cap, cur, e2, by omega, rest⟩
theorem OwnQ.below {w w' : World} {b e : Nat} {v : Value} {L : List (List Int)} (h : OwnQ w b e v L) (hb : Below w.heap.size w w') : OwnQ w' b e v L := by
  obtain ⟨vs, h1, h2, h3⟩ := h
  exact ⟨vs, h1, ownsRow_below h2 hb, fun k u hu => (h3 k u hu).below hb⟩
theorem OwnQ.weaken {w : World} {b b' e e' : Nat} {v : Value} {L : List (List Int)} (h : OwnQ w b e v L) (hb : b' ≤ b) (he : e' ≤ e) : OwnQ w b' e' v L := by
  obtain ⟨vs, h1, h2, h3⟩ := h
  exact ⟨vs, h1, ownsRow_weaken h2 hb, fun k u hu => (h3 k u hu).weaken he⟩
theorem OwnQ.lt {w : World} {b e : Nat} {v : Value} {L : List (List Int)} (h : OwnQ w b e v L) {j : Nat} (hj : v.ownBlock = some j) : b ≤ j ∧ j < w.heap.size := by
  obtain ⟨vs, _, h2, _⟩ := h
  exact h2.lt j hj
theorem OwnQ.form {w : World} {b e : Nat} {v : Value} {L : List (List Int)} (h : OwnQ w b e v L) : ∃ (A : Option Addr) (c : Nat), v = .slice A L.length c ∧ L.length ≤ c := by
  obtain ⟨vs, _, h2, _⟩ := h
  obtain ⟨A, c, h3, h4, _⟩ := own_free h2
  exact ⟨A, c, h3, h4⟩
theorem OwnQ.rl {w : World} {b e : Nat} {A : Option Addr} {n c : Nat} {L : List (List Int)} (h : OwnQ w b e (.slice A n c) L) : RL w w.heap.size A L := by
  obtain ⟨vs, h1, h2, h3⟩ := h
  rcases h2.2 with ⟨e1, h0⟩ | ⟨g, cap, cur, e1, hbg, hg, hnc, _⟩
  · exact fun hn => absurd (List.eq_nil_of_length_eq_zero h0) hn
  · injection e1 with e1 e2 e3
    subst e1
    refine fun _ => ⟨g, 0, rfl, (Array.getElem?_eq_some_iff.1 hg).1, fun k hk => ?_⟩
    have hv : vs[k]? = some vs[k] := List.getElem?_eq_getElem (by omega)
    have hc := h2.cells (g := g) rfl k _ hv
    rw [add_plain] at hc
    obtain ⟨Ak, ck, e2, h5, _, h7⟩ := (h3 k _ hv).open_
    rw [e2] at hc
    exact ⟨Ak, ck, hc, h5, h7⟩
theorem lAt_append_left {L M : List (List Int)} {k : Nat} (h : k < L.length) : lAt (L ++ M) k = lAt L k := by
  rw [lAt_eq _ k (by simp; omega), lAt_eq L k h, List.getElem_append_left h]
theorem lAt_append_right {L M : List (List Int)} {k : Nat} (h : L.length ≤ k) (h2 : k < (L ++ M).length) : lAt (L ++ M) k = lAt M (k - L.length) := by
  rw [lAt_eq _ k h2, List.getElem_append_right h, lAt_eq M _ (by simp at h2; omega)]
/-- Rows one behind the other. -/
theorem OwnQ.join {w w' : World} {b e n m c' : Nat} {v : Value} {A' : Option Addr} {L M : List (List Int)} {vs ms : List Value} (h1 : vs.length = L.length) (h2 : w.ownsRow b 27 1 v n vs) (h3 : ∀ k u, vs[k]? = some u → OwnI w e u (lAt L k))
    (g1 : ms.length = M.length) (g3 : ∀ k u, ms[k]? = some u → OwnI w e u (lAt M k)) (hn : n = L.length) (hm : m = M.length) (hown : w'.ownsRow b 27 1 (.slice A' (n + m) c') (n + m) (vs ++ ms)) (hgrow : w.grownBy w' v.ownBlock) : OwnQ w' b e (.slice A' (n + m) c') (L ++ M) := by
  subst hn hm
  refine ⟨vs ++ ms, by rw [List.length_append, List.length_append, h1, g1], by rw [List.length_append]; exact hown, fun k u hu => ?_⟩
  have hk := (List.getElem?_eq_some_iff.1 hu).1
  rcases Nat.lt_or_ge k L.length with hl | hl
  · rw [List.getElem?_append_left (by omega)] at hu
    rw [lAt_append_left hl]
    exact (h3 k u hu).grown h2 hgrow
  · rw [List.getElem?_append_right (by omega), h1] at hu
    rw [lAt_append_right hl (by simp at hk ⊢; omega)]
    exact (g3 _ u hu).grown h2 hgrow
theorem own_cells {w : World} {e : Nat} {vs : List Value} {L : List (List Int)} (_h1 : vs.length = L.length) (h3 : ∀ k u, vs[k]? = some u → OwnI w e u (lAt L k)) : ∀ u ∈ vs, u.oneCell' = true := fun u hu => by
  obtain ⟨k, hk, rfl⟩ := List.mem_iff_getElem.1 hu
  obtain ⟨A, c, e, _⟩ := h3 k _ (List.getElem?_eq_getElem hk)
  rw [e]; rfl
theorem own_vl {w : World} {b n c : Nat} {A : Option Addr} {t : TypeId} {vs : List Value} (h : w.ownsRow b t 1 (.slice A n c) n vs) : VL w w.heap.size A vs := fun hn => by
  rcases h.2 with ⟨e1, h0⟩ | ⟨g, cap, cur, e1, hbg, hg, hnc, _⟩
  · have := h.1; rw [h0] at this
    exact absurd (List.eq_nil_of_length_eq_zero (by simpa using this)) hn
  · injection e1 with e1 e2 e3
    subst e1
    refine ⟨g, 0, rfl, (Array.getElem?_eq_some_iff.1 hg).1, fun k u hk => ?_⟩
    have := h.cells (g := g) rfl k u hk
    rwa [add_plain] at this

/-- A number more. -/
theorem OwnI.join {w' : World} {b n m c' : Nat} {A' : Option Addr} {l r : List Int} (hn : n = l.length) (hm : m = r.length) (hown : w'.ownsRow b 3 1 (.slice A' (n + m) c') (n + m) (l.map (Value.int .i64) ++ r.map (Value.int .i64))) : OwnI w' b (.slice A' (n + m) c') (l ++ r) :=
  OwnI.of_own (n := n + m) (by rw [List.map_append]; exact hown) (by rw [List.length_append, hn, hm])

end Go.Proofs.Ytggapngibkeodaa
