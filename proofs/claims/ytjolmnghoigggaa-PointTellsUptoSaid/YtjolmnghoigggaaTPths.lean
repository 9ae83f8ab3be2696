/- All paths of a tree: plain functions; rows of paths of the call's own. The document's With, and its paths. The walk of all paths: what its variables hold. -/
import Derived.Test.YtjolmnghoigggaaTLives
import Derived.Test.YtjolmnghoigggaaIBase
import Derived.ArgAppend
namespace Go.Proofs.Ytjolmnghoigggaa
open Go.RowKit
open Go.WideShapes (add_plain)

mutual
/-- The paths of a node at a path, and of all in it; the leaves' alone, if lv. -/
def pathsN (lv : Bool) : NT → List Int → List (List Int)
  | .mk lf _ _ ks, q => (if lf || !lv then [q] else []) ++ pathsK lv ks 0 q
def pathsK (lv : Bool) : List NT → Nat → List Int → List (List Int)
  | [], _, _ => []
  | k :: r, i, q => pathsN lv k (q ++ [(i : Int)]) ++ pathsK lv r (i + 1) q
end
set_option maxRecDepth 4000 in
theorem pathsN_eta (lv : Bool) (n : NT) (q : List Int) : pathsN lv n q = (if n.lf || !lv then [q] else []) ++ pathsK lv n.ks 0 q := by cases n; rw [pathsN]; rfl
set_option maxRecDepth 4000 in
theorem pathsK_append (lv : Bool) : ∀ (a b : List NT) (i : Nat) (q : List Int), pathsK lv (a ++ b) i q = pathsK lv a i q ++ pathsK lv b (i + a.length) q
  | [], b, i, q => by simp [pathsK]
  | k :: r, b, i, q => by rw [List.cons_append, pathsK, pathsK, pathsK_append lv r b (i + 1) q, List.append_assoc, List.length_cons, show i + 1 + r.length = i + (r.length + 1) by omega]
set_option maxRecDepth 4000 in
theorem pathsK_step (lv : Bool) {ks : List NT} {k : Nat} {m : NT} (h : ks[k]? = some m) (q : List Int) : pathsK lv (ks.take (k + 1)) 0 q = pathsK lv (ks.take k) 0 q ++ pathsN lv m (q ++ [(k : Int)]) := by
  have hk := (List.getElem?_eq_some_iff.1 h).1
  rw [take_one h, pathsK_append, List.length_take, show 0 + min k ks.length = k by omega]
  simp [pathsK]
set_option maxRecDepth 4000 in
mutual
theorem pathsN_len (lv : Bool) : ∀ (n : NT) (q : List Int), (pathsN lv n q).length ≤ sizeT n
  | .mk lf _ tx ks, q => by
    have := pathsK_len lv ks 0 q
    rw [pathsN, List.length_append, sizeT]
    split <;> simp <;> omega
theorem pathsK_len (lv : Bool) : ∀ (ks : List NT) (i : Nat) (q : List Int), (pathsK lv ks i q).length ≤ sizeK ks
  | [], i, q => by simp [pathsK, sizeK]
  | k :: r, i, q => by
    have h1 := pathsN_len lv k (q ++ [(i : Int)])
    have h2 := pathsK_len lv r (i + 1) q
    rw [pathsK, List.length_append, sizeK]; omega
end
set_option maxRecDepth 4000 in
mutual
theorem pathsN_each (lv : Bool) : ∀ (n : NT) (q p : List Int), p ∈ pathsN lv n q → p.length ≤ q.length + sizeT n
  | .mk lf _ tx ks, q, p => fun h => by
    rw [pathsN, List.mem_append] at h
    rw [sizeT]
    rcases h with h | h
    · split at h
      · simp at h; subst h; omega
      · cases h
    · have := pathsK_each lv ks 0 q p h; omega
theorem pathsK_each (lv : Bool) : ∀ (ks : List NT) (i : Nat) (q p : List Int), p ∈ pathsK lv ks i q → p.length ≤ q.length + 1 + sizeK ks
  | [], i, q, p => fun h => by cases h
  | k :: r, i, q, p => fun h => by
    rw [pathsK, List.mem_append] at h
    rw [sizeK]
    rcases h with h | h
    · have := pathsN_each lv k _ p h
      simp at this; omega
    · have := pathsK_each lv r (i + 1) q p h; omega
end
set_option maxRecDepth 4000 in
theorem sizeK_le_take {ks : List NT} {k : Nat} : sizeK (ks.take k) ≤ sizeK ks := by
  have : sizeK ks = sizeK (ks.take k) + sizeK (ks.drop k) := by rw [← sizeK_append, List.take_append_drop]
  omega
set_option maxRecDepth 4000 in
theorem sizeT_kid {ks : List NT} {k : Nat} {m : NT} (h : ks[k]? = some m) : sizeT m ≤ sizeK ks := by
  have e : sizeK ks = sizeK (ks.take k) + sizeK (ks.drop k) := by rw [← sizeK_append, List.take_append_drop]
  rw [drop_one h] at e
  simp only [sizeK] at e
  omega

set_option maxRecDepth 4000 in
theorem intG : ElemG 27 3 1 8 := ⟨Try.underlying27, by
  obtain ⟨i0, hi, hz0, hz1, hz2⟩ := info_parts intInfo
  exact ⟨i0, _, hi, hz0, hz1, hz2, rfl⟩, by decide⟩
set_option maxRecDepth 4000 in
theorem rowG : ElemG 51 27 1 24 := ⟨Try.underlying51, by
  obtain ⟨i0, hi, hz0, hz1, hz2⟩ := info_parts rowInfo
  exact ⟨i0, _, hi, hz0, hz1, hz2, rfl⟩, by decide⟩

/-- The value v is a row of the call's own (blocks from b on) of the paths L, each of them a row in blocks from e on. -/
def OwnQ (w : World) (b e : Nat) (v : Value) (L : List (List Int)) : Prop :=
  ∃ (vs : List Value), vs.length = L.length ∧ w.ownsRow b 27 1 v L.length vs ∧ ∀ k u, vs[k]? = some u → OwnI w e u (lAt L k)
set_option maxRecDepth 4000 in
theorem OwnQ.nil (w : World) (b e : Nat) : OwnQ w b e (.slice none 0 0) [] := ⟨[], rfl, World.ownsRow_nil w b 27 1, by simp⟩
set_option maxRecDepth 4000 in
theorem ownsRow_below {w w' : World} {b n size : Nat} {t : TypeId} {v : Value} {xs : List Value} (h : w.ownsRow b t size v n xs) (hb : Below w.heap.size w w') : w'.ownsRow b t size v n xs := by
  refine ⟨h.1, ?_⟩
  rcases h.2 with h4 | ⟨g, cap, cur, e2, hbg, hg, rest⟩
  · exact .inl h4
  · exact .inr ⟨g, cap, cur, e2, hbg, by rw [hb.block g (Array.getElem?_eq_some_iff.1 hg).1]; exact hg, rest⟩
set_option maxRecDepth 4000 in
theorem ownsRow_weaken {w : World} {b b' n size : Nat} {t : TypeId} {v : Value} {xs : List Value} (h : w.ownsRow b t size v n xs) (hb : b' ≤ b) : w.ownsRow b' t size v n xs := by
  refine ⟨h.1, ?_⟩
  rcases h.2 with h4 | ⟨g, cap, cur, e2, hbg, rest⟩
  · exact .inl h4
  · exact .inr ⟨g, cap, cur, e2, by omega, rest⟩
set_option maxRecDepth 4000 in
theorem OwnQ.below {w w' : World} {b e : Nat} {v : Value} {L : List (List Int)} (h : OwnQ w b e v L) (hb : Below w.heap.size w w') : OwnQ w' b e v L := by
  obtain ⟨vs, h1, h2, h3⟩ := h
  exact ⟨vs, h1, ownsRow_below h2 hb, fun k u hu => (h3 k u hu).below hb⟩
set_option maxRecDepth 4000 in
theorem OwnQ.weaken {w : World} {b b' e e' : Nat} {v : Value} {L : List (List Int)} (h : OwnQ w b e v L) (hb : b' ≤ b) (he : e' ≤ e) : OwnQ w b' e' v L := by
  obtain ⟨vs, h1, h2, h3⟩ := h
  exact ⟨vs, h1, ownsRow_weaken h2 hb, fun k u hu => (h3 k u hu).weaken he⟩
set_option maxRecDepth 4000 in
theorem OwnQ.lt {w : World} {b e : Nat} {v : Value} {L : List (List Int)} (h : OwnQ w b e v L) {j : Nat} (hj : v.ownBlock = some j) : b ≤ j ∧ j < w.heap.size := by
  obtain ⟨vs, _, h2, _⟩ := h
  exact h2.lt j hj
set_option maxRecDepth 4000 in
theorem OwnQ.form {w : World} {b e : Nat} {v : Value} {L : List (List Int)} (h : OwnQ w b e v L) : ∃ (A : Option Addr) (c : Nat), v = .slice A L.length c ∧ L.length ≤ c := by
  obtain ⟨vs, _, h2, _⟩ := h
  obtain ⟨A, c, h3, h4, _⟩ := own_free h2
  exact ⟨A, c, h3, h4⟩
set_option maxRecDepth 4000 in
theorem OwnQ.rl {w : World} {b e : Nat} {A : Option Addr} {n c : Nat} {L : List (List Int)} (h : OwnQ w b e (.slice A n c) L) : RL w w.heap.size A L := by
  obtain ⟨vs, h1, h2, h3⟩ := h
  rcases h2.2 with ⟨e1, h0⟩ | ⟨g, cap, cur, e1, hbg, hg, hnc, _⟩
  · exact fun hn => absurd (List.eq_nil_of_length_eq_zero h0) hn
  · injection e1 with e1 e2 e3
    subst e1
    refine fun _ => ⟨g, 0, rfl, (Array.getElem?_eq_some_iff.1 hg).1, fun k hk => ?_⟩
    have hv : vs[k]? = some vs[k] := List.getElem?_eq_getElem (by omega)
    have hc := h2.cells (g := g) rfl k _ hv
    rw [add_plain] at hc
    obtain ⟨Ak, ck, e2, h5, _, h7⟩ := (h3 k _ hv).open_
    rw [e2] at hc
    exact ⟨Ak, ck, hc, h5, h7⟩
set_option maxRecDepth 4000 in
theorem lAt_append_left {L M : List (List Int)} {k : Nat} (h : k < L.length) : lAt (L ++ M) k = lAt L k := by
  rw [lAt_eq _ k (by simp; omega), lAt_eq L k h, List.getElem_append_left h]
set_option maxRecDepth 4000 in
theorem lAt_append_right {L M : List (List Int)} {k : Nat} (h : L.length ≤ k) (h2 : k < (L ++ M).length) : lAt (L ++ M) k = lAt M (k - L.length) := by
  rw [lAt_eq _ k h2, List.getElem_append_right h, lAt_eq M _ (by simp at h2; omega)]
set_option maxRecDepth 4000 in
/-- Rows one behind the other. -/
theorem OwnQ.join {w w' : World} {b e n m c' : Nat} {v : Value} {A' : Option Addr} {L M : List (List Int)} {vs ms : List Value} (h1 : vs.length = L.length) (h2 : w.ownsRow b 27 1 v n vs) (h3 : ∀ k u, vs[k]? = some u → OwnI w e u (lAt L k))
    (g1 : ms.length = M.length) (g3 : ∀ k u, ms[k]? = some u → OwnI w e u (lAt M k)) (hn : n = L.length) (hm : m = M.length) (hown : w'.ownsRow b 27 1 (.slice A' (n + m) c') (n + m) (vs ++ ms)) (hgrow : w.grownBy w' v.ownBlock) : OwnQ w' b e (.slice A' (n + m) c') (L ++ M) := by
  subst hn hm
  refine ⟨vs ++ ms, by rw [List.length_append, List.length_append, h1, g1], by rw [List.length_append]; exact hown, fun k u hu => ?_⟩
  have hk := (List.getElem?_eq_some_iff.1 hu).1
  rcases Nat.lt_or_ge k L.length with hl | hl
  · rw [List.getElem?_append_left (by omega)] at hu
    rw [lAt_append_left hl]
    exact (h3 k u hu).grown h2 hgrow
  · rw [List.getElem?_append_right (by omega), h1] at hu
    rw [lAt_append_right hl (by simp at hk ⊢; omega)]
    exact (g3 _ u hu).grown h2 hgrow
set_option maxRecDepth 4000 in
theorem own_cells {w : World} {e : Nat} {vs : List Value} {L : List (List Int)} (_h1 : vs.length = L.length) (h3 : ∀ k u, vs[k]? = some u → OwnI w e u (lAt L k)) : ∀ u ∈ vs, u.oneCell' = true := fun u hu => by
  obtain ⟨k, hk, rfl⟩ := List.mem_iff_getElem.1 hu
  obtain ⟨A, c, e, _⟩ := h3 k _ (List.getElem?_eq_getElem hk)
  rw [e]; rfl
set_option maxRecDepth 4000 in
theorem own_vl {w : World} {b n c : Nat} {A : Option Addr} {t : TypeId} {vs : List Value} (h : w.ownsRow b t 1 (.slice A n c) n vs) : VL w w.heap.size A vs := fun hn => by
  rcases h.2 with ⟨e1, h0⟩ | ⟨g, cap, cur, e1, hbg, hg, hnc, _⟩
  · have := h.1; rw [h0] at this
    exact absurd (List.eq_nil_of_length_eq_zero (by simpa using this)) hn
  · injection e1 with e1 e2 e3
    subst e1
    refine ⟨g, 0, rfl, (Array.getElem?_eq_some_iff.1 hg).1, fun k u hk => ?_⟩
    have := h.cells (g := g) rfl k u hk
    rwa [add_plain] at this

set_option maxRecDepth 4000 in
/-- A number more. -/
theorem OwnI.join {w' : World} {b n m c' : Nat} {A' : Option Addr} {l r : List Int} (hn : n = l.length) (hm : m = r.length) (hown : w'.ownsRow b 3 1 (.slice A' (n + m) c') (n + m) (l.map (Value.int .i64) ++ r.map (Value.int .i64))) : OwnI w' b (.slice A' (n + m) c') (l ++ r) :=
  OwnI.of_own (n := n + m) (by rw [List.map_append]; exact hown) (by rw [List.length_append, hn, hm])

end Go.Proofs.Ytjolmnghoigggaa

namespace Go.Proofs.Ytjolmnghoigggaa
open Go.RowKit
open Go.WideShapes (add_plain)

theorem il_vl {w : World} {B : Nat} {A : Option Addr} {l : List Int} (h : IL w B A l) : VL w B A (l.map (Value.int .i64)) := fun hn => by
  obtain ⟨b, o, e, hb, hc⟩ := h (by rintro rfl; exact hn rfl)
  refine ⟨b, o, e, hb, fun k u hu => ?_⟩
  have hk : k < l.length := by have := (List.getElem?_eq_some_iff.1 hu).1; simpa using this
  rw [hc k hk, ← hu]
  simp [iAt_eq l k hk, hk]
set_option maxRecDepth 4000 in
theorem ints_one (l : List Int) : ∀ u ∈ l.map (Value.int .i64), u.oneCell' = true := fun u hu => by
  obtain ⟨x, _, rfl⟩ := List.mem_map.1 hu
  rfl
set_option maxRecDepth 4000 in
theorem OwnI.il_at {w w' : World} {e n c : Nat} {A : Option Addr} {l : List Int} (h : OwnI w e (.slice A n c) l) (hb : Below w.heap.size w w') : IL w' w'.heap.size A l := by
  obtain ⟨A', c', e1, _, _, h1⟩ := (h.below hb).open_
  injection e1 with e1 _ _
  rw [e1]; exact h1

set_option maxRecDepth 4000 in
theorem icopy_big (A : Option Addr) (l : List Int) (n c : Nat) (w : World) (hn : l.length = n) (hl : n ≤ 2000000) (hp : IL w w.heap.size A l) :
    Calls Try.prog 60 #[.slice A n c] w (NewP w l) := by
  have HP := hd hp
  have HN := hd hn
  clear hp hn
  go_enter Try.func60, Try.ntmps60
  go_wp2_with (at_builtin; refine wpList_append_G0 intG w rfl _ _ rfl w.heap.size rfl A n c w.heap.size (l.map (Value.int .i64)) rfl (by rw [List.length_map, HN.out]; omega) (il_vl HP.out) (ints_one l) (by unfold maxLen; omega) (by omega) (Nat.le_refl _) ?_; intro A' c' w1 ho1 hb1 _; have HO1 := hd (OwnI.of_own ho1 HN.out.symm); have HB1 := hd hb1; clear ho1 hb1)
  go_ret
  exact ⟨_, rfl, HO1.out, HB1.out⟩

set_option maxRecDepth 4000 in
set_option maxHeartbeats 2000000 in
theorem rwith_any (A : Option Addr) (l : List Int) (n c : Nat) (i : Int) (g : Nat) (w : World) (hn : l.length = n) (hl : n ≤ 2000000) (hp : IL w w.heap.size A l) (hg : g < w.heap.size) (hc : w.cell? ⟨g, 0, none⟩ = some (.int .i64 i)) :
    Calls Try.prog 70 #[.slice A n c, .slice (some ⟨g, 0, none⟩) 1 1] w (NewP w (l ++ [i])) := by
  have HC := hd (icopy_big A l n c w hn hl hp)
  have HN := hd hn
  have HI := hd (show VL w w.heap.size (some ⟨g, 0, none⟩) [.int .i64 i] from fun _ => ⟨g, 0, rfl, hg, fun k u hu => by
    match k, hu with
    | 0, hu => simp at hu; subst hu; exact hc
    | k + 1, hu => simp at hu⟩)
  clear hp hn hc
  go_enter Try.func70, Try.ntmps70
  go_wp2_with (first
    | (at_builtin; go_loud (refine wpList_append_GX intG _ rfl (.tmp 6) (.tmp 7) rfl w.heap.size (.slice A1 n c1) n (l.map (Value.int .i64)) rfl HO1.out (some ⟨g, 0, none⟩) 1 1 w.heap.size [.int .i64 i] rfl rfl (HI.out.below HB1.out) (by simp [Value.oneCell']) (by unfold maxLen; omega) (by omega) HB1.out.size ?_; intro A2 c2 w2 ho2 hg2 _; have HO2 := hd (OwnI.join (r := [i]) HN.out.symm rfl ho2); have HB2 := hd (HB1.out.grown hg2 HB1.out.size (fun j hj => (HO1.out.lt j hj).1)); clear ho2 hg2))
    | (go_at_call 60; refine HC.out.mono ?_; rintro e w1 ⟨v1, rfl, ho1, hb1⟩; obtain ⟨A1, c1, rfl, _, _⟩ := ho1.open_at n HN.out; have HO1 := hd (show w1.ownsRow w.heap.size 3 1 (.slice A1 n c1) n (l.map (Value.int .i64)) by have := ho1.own; rwa [HN.out] at this); have HB1 := hd hb1; clear ho1 hb1))
  go_ret
  exact ⟨_, rfl, HO2.out, HB2.out⟩

set_option maxRecDepth 4000 in
theorem cell_new_drew (w : World) (x : Value) (t : TypeId) {g : Nat} (hg : g = w.heap.size) : ((w.alloc (.cells #[x] t)).drew).cell? ⟨g, 0, none⟩ = some x := by
  subst hg
  show (w.alloc (.cells #[x] t)).cell? _ = _
  rw [World.cell?_alloc_at _ _ _ _ rfl]; rfl
set_option maxRecDepth 4000 in
theorem two_new (w : World) (o : Obj) (x : Value) (t : TypeId) : VL ((w.alloc o).alloc (.cells #[x] t)) (w.heap.size + 2) (some ⟨w.heap.size + 1, 0, none⟩) [x] := by
  have := VL_new (w.alloc o) t [x]
  rw [show (w.alloc o).heap.size = w.heap.size + 1 by simp] at this
  exact this
set_option maxRecDepth 4000 in
theorem one_own {w : World} {e : Nat} {u0 : Value} {q : List Int} (h : OwnI w e u0 q) : ∀ k u, [u0][k]? = some u → OwnI w e u (lAt [q] k) := fun k u hu => by
  match k, hu with
  | 0, hu => simp at hu; subst hu; exact h
  | k + 1, hu => simp at hu
/-- A new row of paths. -/
def NewQ (e : Nat) (L : List (List Int)) (w : World) (en : Ending) (w' : World) : Prop :=
  ∃ A c, en = .returned (.slice A L.length c) ∧ OwnQ w' w.heap.size e (.slice A L.length c) L ∧ Below w.heap.size w w'

set_option maxRecDepth 100000 in
set_option maxHeartbeats 8000000 in
theorem rpaths_false :
    ∀ (d : Nat) (w : World) (v : Value) (n : NT) (A : Option Addr) (q : List Int) (lq c e : Nat), q.length = lq → lq + sizeT n ≤ 1900000 → NodeAt d w w.heap.size v n → OwnI w e (.slice A lq c) q → e ≤ w.heap.size →
      Calls Try.prog 61 #[v, .slice A lq c, .bool false] w (NewQ e (pathsN false n q) w) := by
  intro d0
  induction d0 with
  | zero => intro w v n A q lq c e _ _ h; exact h.elim
  | succ d ih =>
    intro w v n A q lq c e hlq hsz0 hn hoq0 he
    obtain ⟨d', lf, ps, tx, ks, PA, pc, TA, tc, KA, kc, hd', rfl, rfl, hp, ht, hf, hks⟩ := hn.open_
    obtain rfl : d = d' := by omega
    have hsk : lq + sizeK ks ≤ 1899999 := by rw [sizeT] at hsz0; omega
    have hl3 := hf.2.2.2.1
    have HKS := hd hks
    have HIH := hd ih
    have HOQ := hd hoq0
    have HLQ := hd hlq
    have HBW := hd (alloc_below w (.cells #[.bool lf, .slice PA ps.length pc, .slice TA tx.length tc, .slice KA ks.length kc] 26))
    clear hn hp ht hf hks hd' ih hoq0 hlq hsz0
    cases lf
    · have HPN := hd (show pathsN false (.mk false ps tx ks) q = [q] ++ pathsK false ks 0 q by rw [pathsN]; rfl)
      go_enter Try.func61, Try.ntmps61
      go_wp2_with (at_builtin; refine wpList_append_G0 rowG _ rfl (.tmp 16) (.tmp 18) rfl w.heap.size rfl (some ⟨w.heap.size + 1, 0, none⟩) 1 1 (w.heap.size + 2) [.slice A lq c] rfl rfl (two_new w _ _ _) (by simp [Value.oneCell']) (by unfold maxLen; omega) (by omega) (by simp <;> omega) ?_; intro A0 c0 w0 hown0 hb0 _; have hbw0 : Below w.heap.size w w0 := (((Below.refl _ _).alloc (Nat.le_refl _) _).alloc (by simp) _).trans (hb0.mono (by simp <;> omega)); have HW0 := hd hbw0; have HQ0 := hd (show OwnQ w0 w.heap.size e (.slice A0 1 c0) [q] from ⟨[.slice A lq c], rfl, hown0, one_own (HOQ.out.below hbw0)⟩); obtain ⟨z0, z1, z2, z3, -⟩ := blkCells (keepBlk ((Below.heap_alloc _ _ _ (by simp)).trans (heap_alloc_new w _)) hb0); clear hown0 hb0 hbw0)
      go_loopw [7, 23] (fun v i wr => ∃ (k nl : Nat) (A7 : Option Addr) (c7 : Nat), k ≤ ks.length ∧ v = .slice A7 nl c7 ∧ i = .int .i64 k ∧ nl ≤ 2000000 ∧ Hid (Below w.heap.size w wr ∧ nl = ([q] ++ pathsK false (ks.take k) 0 q).length ∧ OwnQ wr w.heap.size e (.slice A7 nl c7) ([q] ++ pathsK false (ks.take k) 0 q))) (fun _ i _ => ks.length - (intOf i).toNat)
      case atStart => exact ⟨0, 1, A0, c0, Nat.zero_le _, rfl, rfl, by omega, ⟨HW0.out, by simp [pathsK], by simpa [pathsK] using HQ0.out⟩⟩
      case round =>
        obtain ⟨k, nl, A7, c7, hk, rfl, rfl, hnl2, HR⟩ := hrel
        have hbr := HR.out.1
        have hsz := hbr.size
        by_cases hlt : k < ks.length
        · obtain ⟨m, b, o, lf1, PA1, np1, pc1, TA1, nt1, tc1, KA1, nk1, kc1, hm, rfl, hbg, hnm, x0, x1, x2, x3⟩ := (HKS.out.below hbr).at_ hlt
          have hsm := sizeT_kid hm
          obtain ⟨W0, hW0⟩ : ∃ W0, W0 = wr.alloc (.cells #[.bool lf1, .slice PA1 np1 pc1, .slice TA1 nt1 tc1, .slice KA1 nk1 kc1] 26) := ⟨_, rfl⟩
          have hb0 : Below wr.heap.size wr W0 := hW0 ▸ alloc_below wr _
          have hbox0 : W0.heap[wr.heap.size]? = some (.cells #[.bool lf1, .slice PA1 np1 pc1, .slice TA1 nt1 tc1, .slice KA1 nk1 kc1] 26 (0, 0)) := hW0 ▸ heap_alloc_new wr _
          have hs0 : W0.heap.size = wr.heap.size + 1 := by rw [hW0]; simp
          have hoq : OwnI W0 e (.slice A lq c) q := HOQ.out.below (hbr.trans (hb0.mono hsz))
          have hrow : OwnQ W0 w.heap.size e (.slice A7 nl c7) ([q] ++ pathsK false (ks.take k) 0 q) := HR.out.2.2.below hb0
          have HM := hd hm
          have HNM := hd ((hnm.more hsz).later hb0)
          have HOW := hd hoq
          have HRW := hd hrow
          have HNL := hd HR.out.2.1
          have HB0 := hd (hbr.trans (hb0.mono hsz))
          have HBX := hd hbox0
          have HS0 := hd hs0
          obtain ⟨y0, y1, y2, y3, -⟩ := blkCells hbox0
          clear hnm hm hbr hb0 hbox0 hs0 hoq hrow
          subst hW0
          go_wp2_with fail
          go_region_law (first
            | (refine step_append_GX rowG _ rfl (.tmp 28) (.tmp 35) rfl w.heap.size (.slice A7 nl c7) nl vs rfl (ownsRow_below HV2.out HBA.out) A2 n2 c2 w2.heap.size ms rfl HM0.out HVL.out HCE.out (by unfold maxLen; omega) (by omega) (by omega) ?_; intro A3 c3 w3 hown3 hgrow3 hat3; have HQ3 := hd (OwnQ.join HV1.out (ownsRow_below HV2.out HBA.out) (fun k u hu => (HV3.out k u hu).below HBA.out) HM1.out HM3.out HNL.out HN2.out hown3 hgrow3); have HB3 := hd (HB2.out.grown hgrow3 (by omega) (fun j hj => (HRW.out.lt hj).1)); clear hown3 hgrow3 hat3)
            | ((go_simp; go_at_call 61; go_loud (refine Calls.mono (HIH.out w1 _ m A1 (q ++ [(k : Int)]) (lq + 1) c1 e HL1.out (by omega) (HNM.out.later HB1.out) HO1.out (by omega)) ?_; intro en w2 h2; obtain ⟨A2, c2, rfl, hq2, hb2⟩ := h2; obtain ⟨ms, hm1, hm2, hm3⟩ := hq2; obtain ⟨vs, hv1, hv2, hv3⟩ := HRW.out; rw [← HNL.out] at hv2; obtain ⟨n2, hn2⟩ : ∃ n2, n2 = (pathsN false m (q ++ [(k : Int)])).length := ⟨_, rfl⟩; have hn3 := pathsN_len false m (q ++ [(k : Int)]); rw [← hn2] at hm1 hm2 hn3; rw [← hn2]; have HV1 := hd hv1; have HV2 := hd hv2; have HV3 := hd hv3; have HBA := hd (HB1.out.trans (hb2.mono HB1.out.size)); have HM1 := hd (hm1.trans hn2); have HM3 := hd hm3; have HVL := hd (own_vl hm2); have HM0 := hd (show ms.length = n2 * 1 by omega); have HCE := hd (own_cells (L := pathsN false m (q ++ [(k : Int)])) (hm1.trans hn2) hm3); have HN2 := hd hn2; have HB2 := hd (HB0.out.trans ((HB1.out.trans (hb2.mono HB1.out.size)).mono HB0.out.size)); have hz2 := hb2.size; have hz1 := HB1.out.size; have hz0 := HB0.out.size; clear hm1 hm2 hm3 hv1 hv2 hv3 hn2 hb2)))
            | ((go_simp; go_at_call 70; refine Calls.mono (rwith_any A q lq c (k : Int) _ _ HLQ.out (by omega) (HOW.out.il_at ?hh) (by simp) (cell_new_drew _ _ _ (by simp))) ?_; (case hh => exact ((Below.refl _ _).alloc (Nat.le_refl _) _).drew); intro en w1 h1; obtain ⟨v1, rfl, ho1, hb1⟩ := h1; obtain ⟨A1, c1, rfl, _, _⟩ := ho1.open_at (lq + 1) (by rw [List.length_append, HLQ.out]; rfl); have hbw : Below (wr.alloc (.cells #[.bool lf1, .slice PA1 np1 pc1, .slice TA1 nt1 tc1, .slice KA1 nk1 kc1] 26)).heap.size (wr.alloc (.cells #[.bool lf1, .slice PA1 np1 pc1, .slice TA1 nt1 tc1, .slice KA1 nk1 kc1] 26)) w1 := (((Below.refl _ _).alloc (Nat.le_refl _) _).drew.trans (hb1.mono (by simp))); have HB1 := hd hbw; have hz1 := hbw.size; rw [HS0.out] at hz1; have HO1 := hd (ho1.weaken (b' := e) (by simp <;> omega)); have HL1 := hd (show (q ++ [(k : Int)]).length = lq + 1 by rw [List.length_append, HLQ.out]; rfl); have hk1 := keepBlk HBX.out hbw; obtain ⟨z0, z1, z2, z3, -⟩ := blkCells hk1; clear hk1 hbw hb1 ho1)))
          all_goals
            have hst := HQ3.out
            rw [List.append_assoc, ← pathsK_step false HM.out q] at hst
            have hle := pathsK_len false (ks.take (k + 1)) 0 q
            have hle2 := sizeK_le_take (ks := ks) (k := k + 1)
            have hlen : nl + n2 = ([q] ++ pathsK false (ks.take (k + 1)) 0 q).length := by
              rw [pathsK_step false HM.out q, ← List.append_assoc, List.length_append, ← HNL.out, ← HN2.out]
            have hnl3 : nl + n2 ≤ 2000000 := by rw [hlen, List.length_append]; simp; omega
            have HNEW := hd (show Below w.heap.size w w3 ∧ nl + n2 = ([q] ++ pathsK false (ks.take (k + 1)) 0 q).length ∧ OwnQ w3 w.heap.size e (.slice A3 (nl + n2) c3) ([q] ++ pathsK false (ks.take (k + 1)) 0 q) from ⟨HB3.out, hlen, hst⟩)
            clear hst hlen hle hle2
            go_wp2_with fail
            go_roundw
            case rel => exact ⟨k + 1, nl + n2, A3, c3, by omega, rfl, by go_num, hnl3, HNEW⟩
            case measure => simp [intOf]; omega
        · obtain rfl : k = ks.length := by omega
          have hfin := HR.out
          rw [List.take_length] at hfin
          have HF := hd hfin
          clear hfin hbr
          go_wp2
          go_ret
          have hnn : (pathsN false (.mk false ps tx ks) q).length = nl := by rw [HPN.out]; exact HF.out.2.1.symm
          exact ⟨A7, c7, by rw [hnn]; rfl, by rw [hnn, HPN.out]; exact HF.out.2.2, HF.out.1⟩
    · have HPN := hd (show pathsN false (.mk true ps tx ks) q = [q] ++ pathsK false ks 0 q by rw [pathsN]; rfl)
      go_enter Try.func61, Try.ntmps61
      go_wp2_with (at_builtin; refine wpList_append_G0 rowG _ rfl (.tmp 16) (.tmp 18) rfl w.heap.size rfl (some ⟨w.heap.size + 1, 0, none⟩) 1 1 (w.heap.size + 2) [.slice A lq c] rfl rfl (two_new w _ _ _) (by simp [Value.oneCell']) (by unfold maxLen; omega) (by omega) (by simp <;> omega) ?_; intro A0 c0 w0 hown0 hb0 _; have hbw0 : Below w.heap.size w w0 := (((Below.refl _ _).alloc (Nat.le_refl _) _).alloc (by simp) _).trans (hb0.mono (by simp <;> omega)); have HW0 := hd hbw0; have HQ0 := hd (show OwnQ w0 w.heap.size e (.slice A0 1 c0) [q] from ⟨[.slice A lq c], rfl, hown0, one_own (HOQ.out.below hbw0)⟩); obtain ⟨z0, z1, z2, z3, -⟩ := blkCells (keepBlk ((Below.heap_alloc _ _ _ (by simp)).trans (heap_alloc_new w _)) hb0); clear hown0 hb0 hbw0)
      go_loopw [7, 23] (fun v i wr => ∃ (k nl : Nat) (A7 : Option Addr) (c7 : Nat), k ≤ ks.length ∧ v = .slice A7 nl c7 ∧ i = .int .i64 k ∧ nl ≤ 2000000 ∧ Hid (Below w.heap.size w wr ∧ nl = ([q] ++ pathsK false (ks.take k) 0 q).length ∧ OwnQ wr w.heap.size e (.slice A7 nl c7) ([q] ++ pathsK false (ks.take k) 0 q))) (fun _ i _ => ks.length - (intOf i).toNat)
      case atStart => exact ⟨0, 1, A0, c0, Nat.zero_le _, rfl, rfl, by omega, ⟨HW0.out, by simp [pathsK], by simpa [pathsK] using HQ0.out⟩⟩
      case round =>
        obtain ⟨k, nl, A7, c7, hk, rfl, rfl, hnl2, HR⟩ := hrel
        have hbr := HR.out.1
        have hsz := hbr.size
        by_cases hlt : k < ks.length
        · obtain ⟨m, b, o, lf1, PA1, np1, pc1, TA1, nt1, tc1, KA1, nk1, kc1, hm, rfl, hbg, hnm, x0, x1, x2, x3⟩ := (HKS.out.below hbr).at_ hlt
          have hsm := sizeT_kid hm
          obtain ⟨W0, hW0⟩ : ∃ W0, W0 = wr.alloc (.cells #[.bool lf1, .slice PA1 np1 pc1, .slice TA1 nt1 tc1, .slice KA1 nk1 kc1] 26) := ⟨_, rfl⟩
          have hb0 : Below wr.heap.size wr W0 := hW0 ▸ alloc_below wr _
          have hbox0 : W0.heap[wr.heap.size]? = some (.cells #[.bool lf1, .slice PA1 np1 pc1, .slice TA1 nt1 tc1, .slice KA1 nk1 kc1] 26 (0, 0)) := hW0 ▸ heap_alloc_new wr _
          have hs0 : W0.heap.size = wr.heap.size + 1 := by rw [hW0]; simp
          have hoq : OwnI W0 e (.slice A lq c) q := HOQ.out.below (hbr.trans (hb0.mono hsz))
          have hrow : OwnQ W0 w.heap.size e (.slice A7 nl c7) ([q] ++ pathsK false (ks.take k) 0 q) := HR.out.2.2.below hb0
          have HM := hd hm
          have HNM := hd ((hnm.more hsz).later hb0)
          have HOW := hd hoq
          have HRW := hd hrow
          have HNL := hd HR.out.2.1
          have HB0 := hd (hbr.trans (hb0.mono hsz))
          have HBX := hd hbox0
          have HS0 := hd hs0
          obtain ⟨y0, y1, y2, y3, -⟩ := blkCells hbox0
          clear hnm hm hbr hb0 hbox0 hs0 hoq hrow
          subst hW0
          go_wp2_with fail
          go_region_law (first
            | (refine step_append_GX rowG _ rfl (.tmp 28) (.tmp 35) rfl w.heap.size (.slice A7 nl c7) nl vs rfl (ownsRow_below HV2.out HBA.out) A2 n2 c2 w2.heap.size ms rfl HM0.out HVL.out HCE.out (by unfold maxLen; omega) (by omega) (by omega) ?_; intro A3 c3 w3 hown3 hgrow3 hat3; have HQ3 := hd (OwnQ.join HV1.out (ownsRow_below HV2.out HBA.out) (fun k u hu => (HV3.out k u hu).below HBA.out) HM1.out HM3.out HNL.out HN2.out hown3 hgrow3); have HB3 := hd (HB2.out.grown hgrow3 (by omega) (fun j hj => (HRW.out.lt hj).1)); clear hown3 hgrow3 hat3)
            | ((go_simp; go_at_call 61; go_loud (refine Calls.mono (HIH.out w1 _ m A1 (q ++ [(k : Int)]) (lq + 1) c1 e HL1.out (by omega) (HNM.out.later HB1.out) HO1.out (by omega)) ?_; intro en w2 h2; obtain ⟨A2, c2, rfl, hq2, hb2⟩ := h2; obtain ⟨ms, hm1, hm2, hm3⟩ := hq2; obtain ⟨vs, hv1, hv2, hv3⟩ := HRW.out; rw [← HNL.out] at hv2; obtain ⟨n2, hn2⟩ : ∃ n2, n2 = (pathsN false m (q ++ [(k : Int)])).length := ⟨_, rfl⟩; have hn3 := pathsN_len false m (q ++ [(k : Int)]); rw [← hn2] at hm1 hm2 hn3; rw [← hn2]; have HV1 := hd hv1; have HV2 := hd hv2; have HV3 := hd hv3; have HBA := hd (HB1.out.trans (hb2.mono HB1.out.size)); have HM1 := hd (hm1.trans hn2); have HM3 := hd hm3; have HVL := hd (own_vl hm2); have HM0 := hd (show ms.length = n2 * 1 by omega); have HCE := hd (own_cells (L := pathsN false m (q ++ [(k : Int)])) (hm1.trans hn2) hm3); have HN2 := hd hn2; have HB2 := hd (HB0.out.trans ((HB1.out.trans (hb2.mono HB1.out.size)).mono HB0.out.size)); have hz2 := hb2.size; have hz1 := HB1.out.size; have hz0 := HB0.out.size; clear hm1 hm2 hm3 hv1 hv2 hv3 hn2 hb2)))
            | ((go_simp; go_at_call 70; refine Calls.mono (rwith_any A q lq c (k : Int) _ _ HLQ.out (by omega) (HOW.out.il_at ?hh) (by simp) (cell_new_drew _ _ _ (by simp))) ?_; (case hh => exact ((Below.refl _ _).alloc (Nat.le_refl _) _).drew); intro en w1 h1; obtain ⟨v1, rfl, ho1, hb1⟩ := h1; obtain ⟨A1, c1, rfl, _, _⟩ := ho1.open_at (lq + 1) (by rw [List.length_append, HLQ.out]; rfl); have hbw : Below (wr.alloc (.cells #[.bool lf1, .slice PA1 np1 pc1, .slice TA1 nt1 tc1, .slice KA1 nk1 kc1] 26)).heap.size (wr.alloc (.cells #[.bool lf1, .slice PA1 np1 pc1, .slice TA1 nt1 tc1, .slice KA1 nk1 kc1] 26)) w1 := (((Below.refl _ _).alloc (Nat.le_refl _) _).drew.trans (hb1.mono (by simp))); have HB1 := hd hbw; have hz1 := hbw.size; rw [HS0.out] at hz1; have HO1 := hd (ho1.weaken (b' := e) (by simp <;> omega)); have HL1 := hd (show (q ++ [(k : Int)]).length = lq + 1 by rw [List.length_append, HLQ.out]; rfl); have hk1 := keepBlk HBX.out hbw; obtain ⟨z0, z1, z2, z3, -⟩ := blkCells hk1; clear hk1 hbw hb1 ho1)))
          all_goals
            have hst := HQ3.out
            rw [List.append_assoc, ← pathsK_step false HM.out q] at hst
            have hle := pathsK_len false (ks.take (k + 1)) 0 q
            have hle2 := sizeK_le_take (ks := ks) (k := k + 1)
            have hlen : nl + n2 = ([q] ++ pathsK false (ks.take (k + 1)) 0 q).length := by
              rw [pathsK_step false HM.out q, ← List.append_assoc, List.length_append, ← HNL.out, ← HN2.out]
            have hnl3 : nl + n2 ≤ 2000000 := by rw [hlen, List.length_append]; simp; omega
            have HNEW := hd (show Below w.heap.size w w3 ∧ nl + n2 = ([q] ++ pathsK false (ks.take (k + 1)) 0 q).length ∧ OwnQ w3 w.heap.size e (.slice A3 (nl + n2) c3) ([q] ++ pathsK false (ks.take (k + 1)) 0 q) from ⟨HB3.out, hlen, hst⟩)
            clear hst hlen hle hle2
            go_wp2_with fail
            go_roundw
            case rel => exact ⟨k + 1, nl + n2, A3, c3, by omega, rfl, by go_num, hnl3, HNEW⟩
            case measure => simp [intOf]; omega
        · obtain rfl : k = ks.length := by omega
          have hfin := HR.out
          rw [List.take_length] at hfin
          have HF := hd hfin
          clear hfin hbr
          go_wp2
          go_ret
          have hnn : (pathsN false (.mk true ps tx ks) q).length = nl := by rw [HPN.out]; exact HF.out.2.1.symm
          exact ⟨A7, c7, by rw [hnn]; rfl, by rw [hnn, HPN.out]; exact HF.out.2.2, HF.out.1⟩

set_option maxRecDepth 100000 in
set_option maxHeartbeats 8000000 in
theorem rpaths_true :
    ∀ (d : Nat) (w : World) (v : Value) (n : NT) (A : Option Addr) (q : List Int) (lq c e : Nat), q.length = lq → lq + sizeT n ≤ 1900000 → NodeAt d w w.heap.size v n → OwnI w e (.slice A lq c) q → e ≤ w.heap.size →
      Calls Try.prog 61 #[v, .slice A lq c, .bool true] w (NewQ e (pathsN true n q) w) := by
  intro d0
  induction d0 with
  | zero => intro w v n A q lq c e _ _ h; exact h.elim
  | succ d ih =>
    intro w v n A q lq c e hlq hsz0 hn hoq0 he
    obtain ⟨d', lf, ps, tx, ks, PA, pc, TA, tc, KA, kc, hd', rfl, rfl, hp, ht, hf, hks⟩ := hn.open_
    obtain rfl : d = d' := by omega
    have hsk : lq + sizeK ks ≤ 1899999 := by rw [sizeT] at hsz0; omega
    have hl3 := hf.2.2.2.1
    have HKS := hd hks
    have HIH := hd ih
    have HOQ := hd hoq0
    have HLQ := hd hlq
    have HBW := hd (alloc_below w (.cells #[.bool lf, .slice PA ps.length pc, .slice TA tx.length tc, .slice KA ks.length kc] 26))
    clear hn hp ht hf hks hd' ih hoq0 hlq hsz0
    cases lf
    · have HPN := hd (show pathsN true (.mk false ps tx ks) q = [] ++ pathsK true ks 0 q by rw [pathsN]; rfl)
      go_enter Try.func61, Try.ntmps61
      go_wp2
      go_loopw [7, 23] (fun v i wr => ∃ (k nl : Nat) (A7 : Option Addr) (c7 : Nat), k ≤ ks.length ∧ v = .slice A7 nl c7 ∧ i = .int .i64 k ∧ nl ≤ 2000000 ∧ Hid (Below w.heap.size w wr ∧ nl = ([] ++ pathsK true (ks.take k) 0 q).length ∧ OwnQ wr w.heap.size e (.slice A7 nl c7) ([] ++ pathsK true (ks.take k) 0 q))) (fun _ i _ => ks.length - (intOf i).toNat)
      case atStart => exact ⟨0, 0, none, 0, Nat.zero_le _, rfl, rfl, by omega, ⟨HBW.out, by simp [pathsK], by simpa [pathsK] using OwnQ.nil _ _ _⟩⟩
      case round =>
        obtain ⟨k, nl, A7, c7, hk, rfl, rfl, hnl2, HR⟩ := hrel
        have hbr := HR.out.1
        have hsz := hbr.size
        by_cases hlt : k < ks.length
        · obtain ⟨m, b, o, lf1, PA1, np1, pc1, TA1, nt1, tc1, KA1, nk1, kc1, hm, rfl, hbg, hnm, x0, x1, x2, x3⟩ := (HKS.out.below hbr).at_ hlt
          have hsm := sizeT_kid hm
          obtain ⟨W0, hW0⟩ : ∃ W0, W0 = wr.alloc (.cells #[.bool lf1, .slice PA1 np1 pc1, .slice TA1 nt1 tc1, .slice KA1 nk1 kc1] 26) := ⟨_, rfl⟩
          have hb0 : Below wr.heap.size wr W0 := hW0 ▸ alloc_below wr _
          have hbox0 : W0.heap[wr.heap.size]? = some (.cells #[.bool lf1, .slice PA1 np1 pc1, .slice TA1 nt1 tc1, .slice KA1 nk1 kc1] 26 (0, 0)) := hW0 ▸ heap_alloc_new wr _
          have hs0 : W0.heap.size = wr.heap.size + 1 := by rw [hW0]; simp
          have hoq : OwnI W0 e (.slice A lq c) q := HOQ.out.below (hbr.trans (hb0.mono hsz))
          have hrow : OwnQ W0 w.heap.size e (.slice A7 nl c7) ([] ++ pathsK true (ks.take k) 0 q) := HR.out.2.2.below hb0
          have HM := hd hm
          have HNM := hd ((hnm.more hsz).later hb0)
          have HOW := hd hoq
          have HRW := hd hrow
          have HNL := hd HR.out.2.1
          have HB0 := hd (hbr.trans (hb0.mono hsz))
          have HBX := hd hbox0
          have HS0 := hd hs0
          obtain ⟨y0, y1, y2, y3, -⟩ := blkCells hbox0
          clear hnm hm hbr hb0 hbox0 hs0 hoq hrow
          subst hW0
          go_wp2_with fail
          go_region_law (first
            | (refine step_append_GX rowG _ rfl (.tmp 28) (.tmp 35) rfl w.heap.size (.slice A7 nl c7) nl vs rfl (ownsRow_below HV2.out HBA.out) A2 n2 c2 w2.heap.size ms rfl HM0.out HVL.out HCE.out (by unfold maxLen; omega) (by omega) (by omega) ?_; intro A3 c3 w3 hown3 hgrow3 hat3; have HQ3 := hd (OwnQ.join HV1.out (ownsRow_below HV2.out HBA.out) (fun k u hu => (HV3.out k u hu).below HBA.out) HM1.out HM3.out HNL.out HN2.out hown3 hgrow3); have HB3 := hd (HB2.out.grown hgrow3 (by omega) (fun j hj => (HRW.out.lt hj).1)); clear hown3 hgrow3 hat3)
            | ((go_simp; go_at_call 61; go_loud (refine Calls.mono (HIH.out w1 _ m A1 (q ++ [(k : Int)]) (lq + 1) c1 e HL1.out (by omega) (HNM.out.later HB1.out) HO1.out (by omega)) ?_; intro en w2 h2; obtain ⟨A2, c2, rfl, hq2, hb2⟩ := h2; obtain ⟨ms, hm1, hm2, hm3⟩ := hq2; obtain ⟨vs, hv1, hv2, hv3⟩ := HRW.out; rw [← HNL.out] at hv2; obtain ⟨n2, hn2⟩ : ∃ n2, n2 = (pathsN true m (q ++ [(k : Int)])).length := ⟨_, rfl⟩; have hn3 := pathsN_len true m (q ++ [(k : Int)]); rw [← hn2] at hm1 hm2 hn3; rw [← hn2]; have HV1 := hd hv1; have HV2 := hd hv2; have HV3 := hd hv3; have HBA := hd (HB1.out.trans (hb2.mono HB1.out.size)); have HM1 := hd (hm1.trans hn2); have HM3 := hd hm3; have HVL := hd (own_vl hm2); have HM0 := hd (show ms.length = n2 * 1 by omega); have HCE := hd (own_cells (L := pathsN true m (q ++ [(k : Int)])) (hm1.trans hn2) hm3); have HN2 := hd hn2; have HB2 := hd (HB0.out.trans ((HB1.out.trans (hb2.mono HB1.out.size)).mono HB0.out.size)); have hz2 := hb2.size; have hz1 := HB1.out.size; have hz0 := HB0.out.size; clear hm1 hm2 hm3 hv1 hv2 hv3 hn2 hb2)))
            | ((go_simp; go_at_call 70; refine Calls.mono (rwith_any A q lq c (k : Int) _ _ HLQ.out (by omega) (HOW.out.il_at ?hh) (by simp) (cell_new_drew _ _ _ (by simp))) ?_; (case hh => exact ((Below.refl _ _).alloc (Nat.le_refl _) _).drew); intro en w1 h1; obtain ⟨v1, rfl, ho1, hb1⟩ := h1; obtain ⟨A1, c1, rfl, _, _⟩ := ho1.open_at (lq + 1) (by rw [List.length_append, HLQ.out]; rfl); have hbw : Below (wr.alloc (.cells #[.bool lf1, .slice PA1 np1 pc1, .slice TA1 nt1 tc1, .slice KA1 nk1 kc1] 26)).heap.size (wr.alloc (.cells #[.bool lf1, .slice PA1 np1 pc1, .slice TA1 nt1 tc1, .slice KA1 nk1 kc1] 26)) w1 := (((Below.refl _ _).alloc (Nat.le_refl _) _).drew.trans (hb1.mono (by simp))); have HB1 := hd hbw; have hz1 := hbw.size; rw [HS0.out] at hz1; have HO1 := hd (ho1.weaken (b' := e) (by simp <;> omega)); have HL1 := hd (show (q ++ [(k : Int)]).length = lq + 1 by rw [List.length_append, HLQ.out]; rfl); have hk1 := keepBlk HBX.out hbw; obtain ⟨z0, z1, z2, z3, -⟩ := blkCells hk1; clear hk1 hbw hb1 ho1)))
          all_goals
            have hst := HQ3.out
            rw [List.append_assoc, ← pathsK_step true HM.out q] at hst
            have hle := pathsK_len true (ks.take (k + 1)) 0 q
            have hle2 := sizeK_le_take (ks := ks) (k := k + 1)
            have hlen : nl + n2 = ([] ++ pathsK true (ks.take (k + 1)) 0 q).length := by
              rw [pathsK_step true HM.out q, ← List.append_assoc, List.length_append, ← HNL.out, ← HN2.out]
            have hnl3 : nl + n2 ≤ 2000000 := by rw [hlen, List.length_append]; simp; omega
            have HNEW := hd (show Below w.heap.size w w3 ∧ nl + n2 = ([] ++ pathsK true (ks.take (k + 1)) 0 q).length ∧ OwnQ w3 w.heap.size e (.slice A3 (nl + n2) c3) ([] ++ pathsK true (ks.take (k + 1)) 0 q) from ⟨HB3.out, hlen, hst⟩)
            clear hst hlen hle hle2
            go_wp2_with fail
            go_roundw
            case rel => exact ⟨k + 1, nl + n2, A3, c3, by omega, rfl, by go_num, hnl3, HNEW⟩
            case measure => simp [intOf]; omega
        · obtain rfl : k = ks.length := by omega
          have hfin := HR.out
          rw [List.take_length] at hfin
          have HF := hd hfin
          clear hfin hbr
          go_wp2
          go_ret
          have hnn : (pathsN true (.mk false ps tx ks) q).length = nl := by rw [HPN.out]; exact HF.out.2.1.symm
          exact ⟨A7, c7, by rw [hnn]; rfl, by rw [hnn, HPN.out]; exact HF.out.2.2, HF.out.1⟩
    · have HPN := hd (show pathsN true (.mk true ps tx ks) q = [q] ++ pathsK true ks 0 q by rw [pathsN]; rfl)
      go_enter Try.func61, Try.ntmps61
      go_wp2_with (at_builtin; refine wpList_append_G0 rowG _ rfl (.tmp 16) (.tmp 18) rfl w.heap.size rfl (some ⟨w.heap.size + 1, 0, none⟩) 1 1 (w.heap.size + 2) [.slice A lq c] rfl rfl (two_new w _ _ _) (by simp [Value.oneCell']) (by unfold maxLen; omega) (by omega) (by simp <;> omega) ?_; intro A0 c0 w0 hown0 hb0 _; have hbw0 : Below w.heap.size w w0 := (((Below.refl _ _).alloc (Nat.le_refl _) _).alloc (by simp) _).trans (hb0.mono (by simp <;> omega)); have HW0 := hd hbw0; have HQ0 := hd (show OwnQ w0 w.heap.size e (.slice A0 1 c0) [q] from ⟨[.slice A lq c], rfl, hown0, one_own (HOQ.out.below hbw0)⟩); obtain ⟨z0, z1, z2, z3, -⟩ := blkCells (keepBlk ((Below.heap_alloc _ _ _ (by simp)).trans (heap_alloc_new w _)) hb0); clear hown0 hb0 hbw0)
      go_loopw [7, 23] (fun v i wr => ∃ (k nl : Nat) (A7 : Option Addr) (c7 : Nat), k ≤ ks.length ∧ v = .slice A7 nl c7 ∧ i = .int .i64 k ∧ nl ≤ 2000000 ∧ Hid (Below w.heap.size w wr ∧ nl = ([q] ++ pathsK true (ks.take k) 0 q).length ∧ OwnQ wr w.heap.size e (.slice A7 nl c7) ([q] ++ pathsK true (ks.take k) 0 q))) (fun _ i _ => ks.length - (intOf i).toNat)
      case atStart => exact ⟨0, 1, A0, c0, Nat.zero_le _, rfl, rfl, by omega, ⟨HW0.out, by simp [pathsK], by simpa [pathsK] using HQ0.out⟩⟩
      case round =>
        obtain ⟨k, nl, A7, c7, hk, rfl, rfl, hnl2, HR⟩ := hrel
        have hbr := HR.out.1
        have hsz := hbr.size
        by_cases hlt : k < ks.length
        · obtain ⟨m, b, o, lf1, PA1, np1, pc1, TA1, nt1, tc1, KA1, nk1, kc1, hm, rfl, hbg, hnm, x0, x1, x2, x3⟩ := (HKS.out.below hbr).at_ hlt
          have hsm := sizeT_kid hm
          obtain ⟨W0, hW0⟩ : ∃ W0, W0 = wr.alloc (.cells #[.bool lf1, .slice PA1 np1 pc1, .slice TA1 nt1 tc1, .slice KA1 nk1 kc1] 26) := ⟨_, rfl⟩
          have hb0 : Below wr.heap.size wr W0 := hW0 ▸ alloc_below wr _
          have hbox0 : W0.heap[wr.heap.size]? = some (.cells #[.bool lf1, .slice PA1 np1 pc1, .slice TA1 nt1 tc1, .slice KA1 nk1 kc1] 26 (0, 0)) := hW0 ▸ heap_alloc_new wr _
          have hs0 : W0.heap.size = wr.heap.size + 1 := by rw [hW0]; simp
          have hoq : OwnI W0 e (.slice A lq c) q := HOQ.out.below (hbr.trans (hb0.mono hsz))
          have hrow : OwnQ W0 w.heap.size e (.slice A7 nl c7) ([q] ++ pathsK true (ks.take k) 0 q) := HR.out.2.2.below hb0
          have HM := hd hm
          have HNM := hd ((hnm.more hsz).later hb0)
          have HOW := hd hoq
          have HRW := hd hrow
          have HNL := hd HR.out.2.1
          have HB0 := hd (hbr.trans (hb0.mono hsz))
          have HBX := hd hbox0
          have HS0 := hd hs0
          obtain ⟨y0, y1, y2, y3, -⟩ := blkCells hbox0
          clear hnm hm hbr hb0 hbox0 hs0 hoq hrow
          subst hW0
          go_wp2_with fail
          go_region_law (first
            | (refine step_append_GX rowG _ rfl (.tmp 28) (.tmp 35) rfl w.heap.size (.slice A7 nl c7) nl vs rfl (ownsRow_below HV2.out HBA.out) A2 n2 c2 w2.heap.size ms rfl HM0.out HVL.out HCE.out (by unfold maxLen; omega) (by omega) (by omega) ?_; intro A3 c3 w3 hown3 hgrow3 hat3; have HQ3 := hd (OwnQ.join HV1.out (ownsRow_below HV2.out HBA.out) (fun k u hu => (HV3.out k u hu).below HBA.out) HM1.out HM3.out HNL.out HN2.out hown3 hgrow3); have HB3 := hd (HB2.out.grown hgrow3 (by omega) (fun j hj => (HRW.out.lt hj).1)); clear hown3 hgrow3 hat3)
            | ((go_simp; go_at_call 61; go_loud (refine Calls.mono (HIH.out w1 _ m A1 (q ++ [(k : Int)]) (lq + 1) c1 e HL1.out (by omega) (HNM.out.later HB1.out) HO1.out (by omega)) ?_; intro en w2 h2; obtain ⟨A2, c2, rfl, hq2, hb2⟩ := h2; obtain ⟨ms, hm1, hm2, hm3⟩ := hq2; obtain ⟨vs, hv1, hv2, hv3⟩ := HRW.out; rw [← HNL.out] at hv2; obtain ⟨n2, hn2⟩ : ∃ n2, n2 = (pathsN true m (q ++ [(k : Int)])).length := ⟨_, rfl⟩; have hn3 := pathsN_len true m (q ++ [(k : Int)]); rw [← hn2] at hm1 hm2 hn3; rw [← hn2]; have HV1 := hd hv1; have HV2 := hd hv2; have HV3 := hd hv3; have HBA := hd (HB1.out.trans (hb2.mono HB1.out.size)); have HM1 := hd (hm1.trans hn2); have HM3 := hd hm3; have HVL := hd (own_vl hm2); have HM0 := hd (show ms.length = n2 * 1 by omega); have HCE := hd (own_cells (L := pathsN true m (q ++ [(k : Int)])) (hm1.trans hn2) hm3); have HN2 := hd hn2; have HB2 := hd (HB0.out.trans ((HB1.out.trans (hb2.mono HB1.out.size)).mono HB0.out.size)); have hz2 := hb2.size; have hz1 := HB1.out.size; have hz0 := HB0.out.size; clear hm1 hm2 hm3 hv1 hv2 hv3 hn2 hb2)))
            | ((go_simp; go_at_call 70; refine Calls.mono (rwith_any A q lq c (k : Int) _ _ HLQ.out (by omega) (HOW.out.il_at ?hh) (by simp) (cell_new_drew _ _ _ (by simp))) ?_; (case hh => exact ((Below.refl _ _).alloc (Nat.le_refl _) _).drew); intro en w1 h1; obtain ⟨v1, rfl, ho1, hb1⟩ := h1; obtain ⟨A1, c1, rfl, _, _⟩ := ho1.open_at (lq + 1) (by rw [List.length_append, HLQ.out]; rfl); have hbw : Below (wr.alloc (.cells #[.bool lf1, .slice PA1 np1 pc1, .slice TA1 nt1 tc1, .slice KA1 nk1 kc1] 26)).heap.size (wr.alloc (.cells #[.bool lf1, .slice PA1 np1 pc1, .slice TA1 nt1 tc1, .slice KA1 nk1 kc1] 26)) w1 := (((Below.refl _ _).alloc (Nat.le_refl _) _).drew.trans (hb1.mono (by simp))); have HB1 := hd hbw; have hz1 := hbw.size; rw [HS0.out] at hz1; have HO1 := hd (ho1.weaken (b' := e) (by simp <;> omega)); have HL1 := hd (show (q ++ [(k : Int)]).length = lq + 1 by rw [List.length_append, HLQ.out]; rfl); have hk1 := keepBlk HBX.out hbw; obtain ⟨z0, z1, z2, z3, -⟩ := blkCells hk1; clear hk1 hbw hb1 ho1)))
          all_goals
            have hst := HQ3.out
            rw [List.append_assoc, ← pathsK_step true HM.out q] at hst
            have hle := pathsK_len true (ks.take (k + 1)) 0 q
            have hle2 := sizeK_le_take (ks := ks) (k := k + 1)
            have hlen : nl + n2 = ([q] ++ pathsK true (ks.take (k + 1)) 0 q).length := by
              rw [pathsK_step true HM.out q, ← List.append_assoc, List.length_append, ← HNL.out, ← HN2.out]
            have hnl3 : nl + n2 ≤ 2000000 := by rw [hlen, List.length_append]; simp; omega
            have HNEW := hd (show Below w.heap.size w w3 ∧ nl + n2 = ([q] ++ pathsK true (ks.take (k + 1)) 0 q).length ∧ OwnQ w3 w.heap.size e (.slice A3 (nl + n2) c3) ([q] ++ pathsK true (ks.take (k + 1)) 0 q) from ⟨HB3.out, hlen, hst⟩)
            clear hst hlen hle hle2
            go_wp2_with fail
            go_roundw
            case rel => exact ⟨k + 1, nl + n2, A3, c3, by omega, rfl, by go_num, hnl3, HNEW⟩
            case measure => simp [intOf]; omega
        · obtain rfl : k = ks.length := by omega
          have hfin := HR.out
          rw [List.take_length] at hfin
          have HF := hd hfin
          clear hfin hbr
          go_wp2
          go_ret
          have hnn : (pathsN true (.mk true ps tx ks) q).length = nl := by rw [HPN.out]; exact HF.out.2.1.symm
          exact ⟨A7, c7, by rw [hnn]; rfl, by rw [hnn, HPN.out]; exact HF.out.2.2, HF.out.1⟩

end Go.Proofs.Ytjolmnghoigggaa

namespace Go.Proofs.Ytjolmnghoigggaa
open Go.RowKit
open Go.WideShapes (add_plain)

/-- Where the variables lie. -/
structure Bx (B gq go gh gw : Nat) : Prop where
  q : B ≤ gq
  o : B ≤ go
  h : B ≤ gh
  k : B ≤ gw
  oq : go ≠ gq
  oh : go ≠ gh
  ok : go ≠ gw
  hq : gh ≠ gq
  hk : gh ≠ gw
/-- What they hold: what is asked, the walk, the paths told so far, the path at hand. -/
structure St (B gq go gh gw : Nat) (fid : FuncId) (w : World) (vo vh : Value) (L : List (List Int)) (h : List Int) : Prop where
  asked : w.cell? ⟨gq, 0, none⟩ = some (.func (.func fid) #[] #[])
  walk : w.cell? ⟨gw, 0, none⟩ = some (.func (.func 65) #[] #[.pointer (some ⟨gq, 0, none⟩), .pointer (some ⟨go, 0, none⟩), .pointer (some ⟨gh, 0, none⟩), .pointer (some ⟨gw, 0, none⟩)])
  out : w.heap[go]? = some (.cells #[vo] 51 (0, 0))
  here : w.heap[gh]? = some (.cells #[vh] 27 (0, 0))
  row : ∃ vs : List Value, vs.length = L.length ∧ w.ownsRow B 27 1 vo L.length vs ∧ ∀ k u, vs[k]? = some u → OwnI w B u (lAt L k) ∧ ∀ j, u.ownBlock = some j → vh.ownBlock ≠ some j
  own : OwnI w B vh h
  apo : vo.ownBlock ≠ some gq ∧ vo.ownBlock ≠ some go ∧ vo.ownBlock ≠ some gh ∧ vo.ownBlock ≠ some gw
  aph : vh.ownBlock ≠ some gq ∧ vh.ownBlock ≠ some go ∧ vh.ownBlock ≠ some gh ∧ vh.ownBlock ≠ some gw

set_option maxRecDepth 4000 in
theorem OwnI.set {w : World} {B g k : Nat} {u x : Value} {l : List Int} {cs : Array Value} {t : TypeId} {fr : Nat × Nat} (h : OwnI w B u l) (hg : w.heap[g]? = some (.cells cs t fr)) (ht : t ≠ 3) : OwnI (w.setCell ⟨g, k, none⟩ x) B u l := by
  refine OwnI.of_own (ownsRow_setCell_other h.own (a := ⟨g, k, none⟩) (fun e => ?_) _) rfl
  rcases h.own.2 with ⟨e1, _⟩ | ⟨g', cap, cur, e1, _, hg', _⟩
  · rw [e1] at e; cases e
  · rw [e1] at e
    injection e with e
    have e : g' = g := e
    subst e
    rw [hg] at hg'
    injection hg' with hg'
    injection hg' with _ h2
    exact ht h2
set_option maxRecDepth 4000 in
theorem OwnI.kept {w w' : World} {B : Nat} {u : Value} {l : List Int} {o : Option Nat} (h : OwnI w B u l) (hg : w.grownBy w' o) (hne : ∀ j, u.ownBlock = some j → o ≠ some j) : OwnI w' B u l := by
  refine OwnI.of_own (h.own.kept hg ?_) rfl
  cases hu : u.ownBlock with
  | none => exact .inl rfl
  | some j => exact .inr (fun e => hne j hu e.symm)
set_option maxRecDepth 4000 in
theorem OwnI.less {w : World} {B n c : Nat} {A : Option Addr} {l : List Int} {i : Int} (h : OwnI w B (.slice A (n + 1) c) (l ++ [i])) (hn : l.length = n) : OwnI w B (.slice A n c) l := by
  have h1 := h.own
  rw [List.length_append, hn] at h1
  refine OwnI.of_own (n := n) ⟨by simp [hn], ?_⟩ hn.symm
  rcases h1.2 with ⟨_, e0⟩ | ⟨g, cap, cur, e, hB, hg, hc, hm, hs, hx⟩
  · simp at e0
  · injection e with e1 e2 e3
    refine .inr ⟨g, cap, cur, by rw [e1, e3], hB, hg, by simp at hc; omega, hm, hs, ?_⟩
    have h2 := congrArg (List.take (n * 1)) hx
    rw [List.take_take, show min (n * 1) ((n + [i].length) * 1) = n * 1 by simp] at h2
    rw [h2, List.map_append, List.take_append_of_le_length (by simp [hn]), List.take_of_length_le (by simp [hn])]
set_option maxRecDepth 4000 in
theorem own_type {w : World} {b n size g : Nat} {t t' : TypeId} {v : Value} {xs : List Value} {cs : Array Value} {fr : Nat × Nat} (h : w.ownsRow b t size v n xs) (hg : w.heap[g]? = some (.cells cs t' fr)) (ht : t' ≠ t) : v.ownBlock ≠ some g := fun e => by
  rcases h.2 with ⟨e1, _⟩ | ⟨g', cap, cur, e1, _, hg', _⟩
  · rw [e1] at e; cases e
  · rw [e1] at e
    injection e with e
    have e : g' = g := e
    subst e
    rw [hg] at hg'
    injection hg' with hg'
    injection hg' with _ h2
    exact ht h2

section
variable {B gq go gh gw : Nat} {fid : FuncId} {w wx w2 : World} {vo vh : Value} {L : List (List Int)} {h : List Int}
set_option maxRecDepth 4000 in
theorem St.below {w' : World} (s : St B gq go gh gw fid w vo vh L h) (hb : Below w.heap.size w w') : St B gq go gh gw fid w' vo vh L h := by
  obtain ⟨vs, h1, h2, h3⟩ := s.row
  exact ⟨(hb.cell (cell_in s.asked)).trans s.asked, (hb.cell (cell_in s.walk)).trans s.walk, keepBlk s.out hb, keepBlk s.here hb, ⟨vs, h1, ownsRow_below h2 hb, fun k u hu => ⟨(h3 k u hu).1.below hb, (h3 k u hu).2⟩⟩, s.own.below hb, s.apo, s.aph⟩
set_option maxRecDepth 4000 in
theorem St.push (bx : Bx B gq go gh gw) {vs : List Value} {vo' v5 : Value} {l : List Int} {nl : Nat} (s : St B gq go gh gw fid w vo vh L h) (hb : Below w.heap.size w wx) (hnl : nl = L.length) (hv1 : vs.length = L.length) (hv2 : w.ownsRow B 27 1 vo nl vs) (hv3 : ∀ k u, vs[k]? = some u → OwnI w B u (lAt L k) ∧ ∀ j, u.ownBlock = some j → vh.ownBlock ≠ some j)
    (h5 : OwnI wx B v5 l) (hf5 : ∀ j, v5.ownBlock = some j → w.heap.size ≤ j) (hown : w2.ownsRow B 27 1 vo' (nl + 1) (vs ++ [v5])) (hgrow : wx.grownBy w2 vo.ownBlock) (hat : vo'.ownBlock = vo.ownBlock ∨ ∃ g, vo'.ownBlock = some g ∧ wx.heap.size ≤ g) :
    St B gq go gh gw fid (w2.setCell ⟨go, 0, none⟩ vo') vo' vh (L ++ [l]) h := by
  subst hnl
  have x := s.below hb
  have lq := cell_in x.asked
  have lk := cell_in x.walk
  have lo := lt_of_block x.out
  have lh := lt_of_block x.here
  have lq : gq < wx.heap.size := lq
  have lk : gw < wx.heap.size := lk
  have gb : ∀ b, b < wx.heap.size → vo.ownBlock ≠ some b → w2.heap[b]? = wx.heap[b]? := fun b h1 h2 => hgrow.block b h1 (fun e => h2 e.symm)
  have ho2 : w2.heap[go]? = some (.cells #[vo] 51 (0, 0)) := (gb go lo x.apo.2.1).trans x.out
  have ap' := fun g (h1 : vo.ownBlock ≠ some g) (h2 : g < wx.heap.size) => apart_step h1 h2 hat
  have hrow := ownsRow_below hv2 hb
  refine ⟨?_, ?_, ?_, ?_, ⟨vs ++ [v5], by simp [hv1], ?_, fun k u hu => ?_⟩, ?_, ⟨ap' _ x.apo.1 lq, ap' _ x.apo.2.1 lo, ap' _ x.apo.2.2.1 lh, ap' _ x.apo.2.2.2 lk⟩, x.aph⟩
  · exact (World.cell?_of_block (a := ⟨gq, 0, none⟩) ((Below.heap_setCell _ _ _ _ (by show gq ≠ go; exact bx.oq.symm)).trans (gb gq lq x.apo.1))).trans x.asked
  · exact (World.cell?_of_block (a := ⟨gw, 0, none⟩) ((Below.heap_setCell _ _ _ _ (by show gw ≠ go; exact bx.ok.symm)).trans (gb gw lk x.apo.2.2.2))).trans x.walk
  · rw [setCell_block ho2]; rfl
  · exact (Below.heap_setCell _ _ _ _ (by show gh ≠ go; exact bx.oh.symm)).trans ((gb gh lh x.apo.2.2.1).trans x.here)
  · rw [List.length_append]; exact ownsRow_setCell_other hown (a := ⟨go, 0, none⟩) (ap' _ x.apo.2.1 lo) _
  · rcases Nat.lt_or_ge k L.length with hl | hl
    · rw [List.getElem?_append_left (by omega)] at hu
      rw [lAt_append_left hl]
      exact ⟨(((hv3 k u hu).1.below hb).grown hrow hgrow).set ho2 (by decide), (hv3 k u hu).2⟩
    · rw [List.getElem?_append_right (by omega)] at hu
      have hk0 : k - vs.length = 0 := by
        have := (List.getElem?_eq_some_iff.1 hu).1
        simp at this; omega
      rw [hk0] at hu
      have hu : v5 = u := by simpa using hu
      subst hu
      have : lAt (L ++ [l]) k = l := by
        have : k = L.length := by omega
        subst this
        simp [lAt]
      rw [this]
      exact ⟨(h5.grown hrow hgrow).set ho2 (by decide), fun j hj e => by have := hf5 j hj; have := (s.own.lt e).2; omega⟩
  · exact (x.own.grown hrow hgrow).set ho2 (by decide)
set_option maxRecDepth 4000 in
theorem St.more (bx : Bx B gq go gh gw) {vh' : Value} {i : Int} {n : Nat} (s : St B gq go gh gw fid w vo vh L h) (hb : Below w.heap.size w wx) (hn : n = h.length) (hown : w2.ownsRow B 3 1 vh' (n + 1) (h.map (Value.int .i64) ++ [.int .i64 i])) (hgrow : wx.grownBy w2 vh.ownBlock) (hat : vh'.ownBlock = vh.ownBlock ∨ ∃ g, vh'.ownBlock = some g ∧ wx.heap.size ≤ g) :
    St B gq go gh gw fid (w2.setCell ⟨gh, 0, none⟩ vh') vo vh' L (h ++ [i]) := by
  subst hn
  have x := s.below hb
  have lq : gq < wx.heap.size := cell_in x.asked
  have lk : gw < wx.heap.size := cell_in x.walk
  have lo := lt_of_block x.out
  have lh := lt_of_block x.here
  have gb : ∀ b, b < wx.heap.size → vh.ownBlock ≠ some b → w2.heap[b]? = wx.heap[b]? := fun b h1 h2 => hgrow.block b h1 (fun e => h2 e.symm)
  have hh2 : w2.heap[gh]? = some (.cells #[vh] 27 (0, 0)) := (gb gh lh x.aph.2.2.1).trans x.here
  have ap' := fun g (h1 : vh.ownBlock ≠ some g) (h2 : g < wx.heap.size) => apart_step h1 h2 hat
  obtain ⟨vs, hv1, hv2, hv3⟩ := x.row
  refine ⟨?_, ?_, ?_, ?_, ⟨vs, hv1, ?_, fun k u hu => ⟨?_, fun j hj => ?_⟩⟩, ?_, x.apo, ⟨ap' _ x.aph.1 lq, ap' _ x.aph.2.1 lo, ap' _ x.aph.2.2.1 lh, ap' _ x.aph.2.2.2 lk⟩⟩
  · exact (World.cell?_of_block (a := ⟨gq, 0, none⟩) ((Below.heap_setCell _ _ _ _ (by show gq ≠ gh; exact bx.hq.symm)).trans (gb gq lq x.aph.1))).trans x.asked
  · exact (World.cell?_of_block (a := ⟨gw, 0, none⟩) ((Below.heap_setCell _ _ _ _ (by show gw ≠ gh; exact bx.hk.symm)).trans (gb gw lk x.aph.2.2.2))).trans x.walk
  · exact (Below.heap_setCell _ _ _ _ (by show go ≠ gh; exact bx.oh)).trans ((gb go lo x.aph.2.1).trans x.out)
  · rw [setCell_block hh2]; rfl
  · exact ownsRow_setCell_other (hv2.kept hgrow (own_apart x.own.own hv2 (by decide))) (a := ⟨gh, 0, none⟩) x.apo.2.2.1 _
  · exact ((hv3 k u hu).1.kept hgrow (hv3 k u hu).2).set hh2 (by decide)
  · have hlt := ((hv3 k u hu).1.lt hj).2
    rcases hat with e | ⟨g, e, hg⟩
    · rw [e]; exact (hv3 k u hu).2 j hj
    · rw [e]; intro e2; injection e2 with e2; omega
  · have := OwnI.of_own (l := h ++ [i]) (n := h.length + 1) (by rw [List.map_append]; exact hown) (by simp)
    exact this.set hh2 (by decide)
set_option maxRecDepth 4000 in
theorem St.less (bx : Bx B gq go gh gw) {A : Option Addr} {n c : Nat} {i : Int} (s : St B gq go gh gw fid w vo (.slice A (n + 1) c) L (h ++ [i])) (hn : h.length = n) : St B gq go gh gw fid (w.setCell ⟨gh, 0, none⟩ (.slice A n c)) vo (.slice A n c) L h := by
  have e : (Value.slice A n c).ownBlock = (Value.slice A (n + 1) c).ownBlock := by cases A <;> rfl
  obtain ⟨vs, hv1, hv2, hv3⟩ := s.row
  refine ⟨?_, ?_, ?_, ?_, ⟨vs, hv1, ?_, fun k u hu => ⟨(hv3 k u hu).1.set s.here (by decide), fun j hj => ?_⟩⟩, ?_, s.apo, by rw [e]; exact s.aph⟩
  · exact (World.cell?_of_block (a := ⟨gq, 0, none⟩) (Below.heap_setCell _ _ _ _ (by show gq ≠ gh; exact bx.hq.symm))).trans s.asked
  · exact (World.cell?_of_block (a := ⟨gw, 0, none⟩) (Below.heap_setCell _ _ _ _ (by show gw ≠ gh; exact bx.hk.symm))).trans s.walk
  · exact (Below.heap_setCell _ _ _ _ (by show go ≠ gh; exact bx.oh)).trans s.out
  · rw [setCell_block s.here]; rfl
  · exact ownsRow_setCell_other hv2 (a := ⟨gh, 0, none⟩) s.apo.2.2.1 _
  · rw [e]; exact (hv3 k u hu).2 j hj
  · exact (s.own.less hn).set s.here (by decide)
end

theorem step_append_grows {ts te : TypeId} {size by_ : Nat} (E : ElemG ts te size by_) (W : World) {ops : Array Oper} {o : Oper} {a : Act} {K : Act → World → Prop} {Q : Exit → Act → World → Prop} {F : Prop} (hgd : o.guard = none) (s x : Operand)
    (ho : o.op = .call { callee := .builtin .append, args := #[s, x], argTypes := #[ts, ts] })
    (ao : Option Addr) (n cap : Nat) (olds : List Value) (hs : a.eval s = .slice ao n cap) (hnone : ao = none → n = 0 ∧ cap = 0) (hlo : olds.length = n * size) (holds : ∀ b, ao = some b → ∀ j u, olds[j]? = some u → W.cell? (b.add j) = some u)
    (ad : Addr) (m c : Nat) (news : List Value) (hx : a.eval x = .slice (some ad) m c) (hn : news.length = m * size) (hc : ∀ j u, news[j]? = some u → W.cell? (ad.add j) = some u) (h1c : ∀ u ∈ news, u.oneCell' = true)
    (hfull : cap < n + m) (b1 : n + m ≤ maxLen) (b2 : (n + m) * by_ ≤ 140737488355328)
    (hK : ∀ v' w', w'.ownsRow W.heap.size te size v' (n + m) (olds ++ news) → W.grownBy w' none → K (a.put o.dst v') w') :
    if Region.wanted o (yielded ops a.tmps) = true then Oper.wp Try.prog o a W K Q else F := by
  have hw : Region.wanted o (yielded ops a.tmps) = true := by simp [Region.wanted, hgd]
  rw [if_pos hw]
  obtain ⟨i, z, h2, h3, h4, h5, h6⟩ := E.info
  cases ao with
  | some b =>
    obtain ⟨v', w', hrun, r1, r2⟩ := run_append_arg_grows (P := Try.prog) W ts o.type te i z size by_ E.under h2 h3 h4 h5 h6 E.pos b n cap olds hlo (holds b rfl) ad m c news hn hc hfull b1 b2
    unfold Oper.wp
    simp [execOp, ho, resolve, invoke, builtin, hs, hx, hrun, Result.andThen]
    exact hK v' w' r1 r2
  | none =>
    obtain ⟨rfl, rfl⟩ := hnone rfl
    obtain rfl : olds = [] := List.eq_nil_of_length_eq_zero (by simpa using hlo)
    obtain ⟨v', w', hrun, r1, r2, _⟩ := run_append_own (P := Try.prog) W W.heap.size ts o.type te i z size by_ E.under h2 h3 h4 h5 h6 E.pos (.slice none 0 0) 0 [] (World.ownsRow_nil W _ te size) ad m c news hn hc h1c b1 b2 (Nat.le_refl _)
    unfold Oper.wp
    simp [execOp, ho, resolve, invoke, builtin, hs, hx, hrun, Result.andThen]
    exact hK v' w' r1 r2
set_option maxRecDepth 4000 in
theorem one_cell {w : World} {g : Nat} {v : Value} {t : TypeId} (h : w.heap[g]? = some (.cells #[v] t (0, 0))) : w.cell? ⟨g, 0, none⟩ = some v ∧ w.frozen? ⟨g, 0, none⟩ = false := by
  constructor <;> simp [World.cell?, World.frozen?, h]
set_option maxRecDepth 4000 in
theorem own_olds {w : World} {B n c : Nat} {A : Option Addr} {l : List Int} (h : OwnI w B (.slice A n c) l) (hn : l.length = n) : (∀ w', Below w.heap.size w w' → A = none → n = 0 ∧ n = 0) ∧ (l.map (Value.int .i64)).length = n * 1 ∧ ∀ w', Below w.heap.size w w' → ∀ b, A = some b → ∀ j u, (l.map (Value.int .i64))[j]? = some u → w'.cell? (b.add j) = some u := by
  have hown := h.own
  rw [hn] at hown
  refine ⟨fun _ _ e => ?_, by simp [hn], fun w' hb b e j u hu => ?_⟩
  · rcases hown.2 with ⟨_, e0⟩ | ⟨g, cap, cur, e1, _⟩
    · exact ⟨e0, e0⟩
    · rw [e] at e1; injection e1 with e1; cases e1
  · obtain ⟨b', o', e2, hlt, hc⟩ := own_vl hown (fun e0 => by rw [e0] at hu; simp at hu)
    rw [e] at e2
    injection e2 with e2
    subst e2
    rw [add_plain]
    exact (hb.cell (p := ⟨b', o' + j, none⟩) hlt).trans (hc j u hu)
set_option maxRecDepth 4000 in
theorem new_cells (w : World) (x : Value) (t : TypeId) : ∀ j u, [x][j]? = some u → (w.alloc (.cells #[x] t)).cell? ((⟨w.heap.size, 0, none⟩ : Addr).add j) = some u := fun j u hu => by
  match j, hu with
  | 0, hu =>
    simp at hu
    subst hu
    rw [add_plain, Nat.zero_add, World.cell?_alloc_at _ _ _ _ rfl]; rfl
  | j + 1, hu => simp at hu
/-- What is asked of a node. -/
structure Ask (fid : FuncId) (lv : Bool) : Prop where
  enters : ∀ args w, (callFunc fid args).run Try.prog w = .ok (.enter fid args) w
  does : ∀ d w v n, NodeAt d w w.heap.size v n → Calls Try.prog fid #[v] w (Still (.bool (n.lf || !lv)) w)
set_option maxRecDepth 4000 in
theorem askL : Ask 54 true := ⟨enters_of Try.func54 (by kernel_rfl) rfl, fun d w v n hn => by
  obtain ⟨d', lf, ps, tx, ks, PA, pc, TA, tc, KA, kc, hd', rfl, rfl, _⟩ := hn.open_
  have HB := hd (alloc_below w (.cells #[.bool lf, .slice PA ps.length pc, .slice TA tx.length tc, .slice KA ks.length kc] 26))
  have HF := hd (show ((NT.mk lf ps tx ks).lf || !true) = lf by simp [NT.lf])
  clear hn
  go_enter Try.func54, Try.ntmps54
  go_wp2
  go_ret
  exact ⟨ret_bool HF.out.symm, HB.out⟩⟩
/-- What the walk leaves. -/
def Walked (B gq go gh gw : Nat) (fid : FuncId) (L : List (List Int)) (h : List Int) (w : World) (e : Ending) (w' : World) : Prop :=
  e = .returned (.tuple #[]) ∧ (∃ vo vh, St B gq go gh gw fid w' vo vh L h) ∧ Below B w w'

section
variable {P : Program} {ops : Array Oper} {Q : Exit → Act → World → Prop} {S : World → Prop} {z : Nat}
/-- Whatever order is picked from here on; S holds behind every operation but number z. -/
def wpAnyZ (P : Program) (ops : Array Oper) (Q : Exit → Act → World → Prop) (S : World → Prop) (z : Nat) : Nat → Array Bool → Act → World → Prop
  | 0, listed, a, w => Region.ready .any ops listed = [] ∧ Q .normal a w
  | n + 1, listed, a, w => (Region.ready .any ops listed = [] → Q .normal a w) ∧
      ∀ i ∈ Region.ready .any ops listed, wpOp P ops Q i (fun a' w' => (i ≠ z → S w') ∧ wpAnyZ P ops Q S z n (listed.setIfInBounds i true) a' w') a w
set_option maxRecDepth 4000 in
theorem any_of_Z : ∀ (n : Nat) (listed : Array Bool) (a : Act) (w : World), wpAnyZ P ops Q S z n listed a w → wpAny P .any ops Q n listed a w
  | 0, _, _, _, h => h
  | n + 1, _, _, _, h => ⟨h.1, fun i hi => wpOp_mono (fun a' w' h' => any_of_Z n _ a' w' h'.2) (h.2 i hi)⟩
/-- Operation z waits for operation i. -/
def waitsZ (ops : Array Oper) (z i : Nat) : Bool := match ops[z]? with
  | some o => o.after.toList.any fun e => Region.binds .any e && e.on == i
  | none => false
set_option maxRecDepth 4000 in
/-- What z waits for, and yields the same in every world that meets S, may be taken first. -/
theorem Z_first {i : Nat} {oi : Oper} {v : Value} (hi : ops[i]? = some oi) (hsel : Region.noSelect ops = true) (hz : waitsZ ops z i = true)
    (hQ : ∀ c a w, Q (.panic c) (a.put oi.dst v) w → Q (.panic c) a w) :
    ∀ (n : Nat) (listed : Array Bool) (a : Act) (w : World),
      (∀ j oj, ops[j]? = some oj → j ≠ i → listed.getD j true = false → (∀ e ∈ oj.after, Region.binds .any e = true → e.on ≠ i) → oi.apart ops oj = true) →
      i ∈ Region.ready .any ops listed → YieldsIf P ops S oi v a → S w →
      wpAnyZ P ops Q S z n (listed.setIfInBounds i true) (a.put oi.dst v) w → wpAnyZ P ops Q S z (n + 1) listed a w := by
  have sel := Region.noSelect_spec hsel
  intro n
  induction n with
  | zero =>
    intro listed a w _ hr hy hS H
    refine ⟨fun h => absurd hr (by rw [h]; simp), fun j hj => ?_⟩
    rcases Classical.em (j = i) with e | e
    · subst e; exact hy.wpOp hi hS ⟨fun _ => hS, H⟩
    · have := ready_mono hj e
      rw [H.1] at this; cases this
  | succ n ih =>
    intro listed a w hfree hr hy hS H
    refine ⟨fun h => absurd hr (by rw [h]; simp), fun j hj => ?_⟩
    rcases Classical.em (j = i) with e | e
    · subst e; exact hy.wpOp hi hS ⟨fun _ => hS, H⟩
    · obtain ⟨hjun, oj, hoj, hall⟩ := mem_ready.1 hj
      have hiun := (mem_ready.1 hr).1
      have hno : ∀ e ∈ oj.after, Region.binds .any e = true → e.on ≠ i := fun x hx hb heq => by
        have h1 := hall x hx hb
        rw [heq] at h1
        rcases Nat.lt_or_ge i listed.size with h' | h'
        · simp [h'] at hiun h1; rw [hiun] at h1; cases h1
        · simp [Array.getElem?_eq_none h'] at h1
      have hjz : j ≠ z := fun ez => by
        subst ez
        unfold waitsZ at hz
        rw [hoj] at hz
        obtain ⟨x, hx, hx2⟩ := List.any_eq_true.1 hz
        simp only [Bool.and_eq_true, beq_iff_eq] at hx2
        exact hno x (by simpa using hx) hx2.1 hx2.2
      have h2 := wpOp_putIf hoj (hfree j oj hoj e hjun hno) (fun cs b => sel i oi cs b hi) (fun cs b => sel j oj cs b hoj) hQ hy (H.2 j (ready_mono hj e))
      refine wpOp_mono (fun a' w' h3 => ⟨h3.2.1, ih (listed.setIfInBounds j true) a' w' (fun k ok hk hki hun hn => hfree k ok hk hki ?_ hn) (ready_mono hr (Ne.symm e)) h3.1 (h3.2.1 hjz) ?_⟩) h2
      · rcases Classical.em (j = k) with ek | ek
        · subst ek; exact hjun
        · rw [getD_set_ne true ek] at hun; exact hun
      · rw [Array.setIfInBounds_comm _ _ e]; exact h3.2.2
set_option maxRecDepth 4000 in
theorem Z_take {i : Nat} {oi : Oper} (v : Value) {n : Nat} {listed : Array Bool} {a : Act} {w : World} (hi : ops[i]? = some oi) (hs : Region.noSelect ops = true) (hz : waitsZ ops z i = true) (hf : Region.free .any ops listed i = true) (hr : (Region.ready .any ops listed).contains i = true)
    (hQ : ∀ c a w, Q (.panic c) (a.put oi.dst v) w → Q (.panic c) a w) (hw : Region.wanted oi (yielded ops a.tmps) = true) (hy : ∀ w, S w → (execOp a.eval oi).run P w = .ok (.value v) w) (hS : S w)
    (h : wpAnyZ P ops Q S z n (listed.setIfInBounds i true) (a.put oi.dst v) w) : wpAnyZ P ops Q S z (n + 1) listed a w :=
  Z_first hi hs hz hQ n listed a w (Region.free_spec hi hf) (by simpa using hr) (.inl ⟨hw, hy⟩) hS h
set_option maxRecDepth 4000 in
/-- Just one may come up. -/
theorem Z_one {i : Nat} {o : Oper} {n : Nat} {listed : Array Bool} {a : Act} {w : World} (hr : Region.ready .any ops listed = [i]) (hi : ops[i]? = some o)
    (h : ∀ K : Act → World → Prop, (∀ a' w', (i ≠ z → S w') → wpAnyZ P ops Q S z n (listed.setIfInBounds i true) a' w' → K a' w') → if Region.wanted o (yielded ops a.tmps) = true then Oper.wp P o a w K Q else False) : wpAnyZ P ops Q S z (n + 1) listed a w := by
  refine ⟨fun e => absurd (e.symm.trans hr) (by simp), fun j hj => ?_⟩
  rw [hr, List.mem_singleton] at hj
  subst hj
  have h1 := h (fun a' w' => (j ≠ z → S w') ∧ wpAnyZ P ops Q S z n (listed.setIfInBounds j true) a' w') (fun a' w' h1 h2 => ⟨h1, h2⟩)
  unfold wpOp
  simp only [hi]
  split
  · rename_i hw
    rw [if_pos hw] at h1
    exact .inl h1
  · rename_i hw
    rw [if_neg hw] at h1
    exact h1.elim
set_option maxRecDepth 4000 in
theorem Z_done {n : Nat} {listed : Array Bool} {a : Act} {w : World} (hr : Region.ready .any ops listed = []) (h : Q .normal a w) : wpAnyZ P ops Q S z n listed a w := by
  cases n with
  | zero => exact ⟨hr, h⟩
  | succ n => exact ⟨fun _ => h, by rw [hr]; simp⟩
set_option maxRecDepth 4000 in
theorem Z_start {id : Nat} {a : Act} {w : World} (hm : P.follows .mixedOrders = true) (h : wpAnyZ P ops Q S z ops.size (Array.replicate ops.size false) a w.drew) : (Code.region id ops true).wp P Q a w :=
  wp_region_any hm (any_of_Z _ _ _ _ h)
end

end Go.Proofs.Ytjolmnghoigggaa
