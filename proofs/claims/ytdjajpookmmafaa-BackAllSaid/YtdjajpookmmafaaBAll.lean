/- back.All: the inverses of operations, from behind. -/
import Derived.Test.YtdjajpookmmafaaBBacks
import Derived.Test.YtdjajpookmmafaaBPlain
import Derived.Sort.CutIn
import Derived.RangeFuncBox
import Derived.Maps.AppendAt
namespace Go.Proofs.Ytdjajpookmmafaa
open Go.RowKit Go.Shelf
attribute [local go_sem] Oper.semAt_some

def uaAt (us : List OpP) (k : Nat) : OpP := us[k]?.getD zeroO
set_option maxRecDepth 4000 in
theorem LO.ok_at {w : World} {A : Option Addr} {cs : List OC} {us : List OpP} (h : LO w A cs us) (k : Nat) : OkA w (ocAt cs k) (uaAt us k) := by
  rcases Nat.lt_or_ge k us.length with h1 | h1
  · have h2 : k < cs.length := by rw [h.hl]; exact h1
    have e1 : cs[k]? = some cs[k] := List.getElem?_eq_getElem h2
    have e2 : us[k]? = some us[k] := List.getElem?_eq_getElem h1
    unfold ocAt uaAt
    rw [e1, e2]
    exact h.ha k _ _ e1 e2
  · unfold ocAt uaAt
    rw [List.getElem?_eq_none h1, List.getElem?_eq_none (by rw [h.hl]; exact h1)]
    exact OkA.zero w
set_option maxRecDepth 4000 in
theorem tiny_at {us : List OpP} (h : ∀ (k : Nat) (a : OpP), us[k]? = some a → Tiny a) (k : Nat) : Tiny (uaAt us k) := by
  unfold uaAt
  cases e : us[k]? with
  | none => exact Tiny.zero
  | some a => exact h k a e
set_option maxRecDepth 4000 in
theorem dn_ops (us : List OpP) : us.reverse = (dn us.length us.length).map (uaAt us) := by
  apply List.ext_getElem
  · simp [dn]
  · intro i h1 h2
    simp at h1
    simp [dn, uaAt, List.getElem_reverse, show us.length - 1 - i < us.length by omega]

set_option maxRecDepth 4000 in
theorem dn_cut (n j : Nat) (h : j ≤ n) : ∃ r, dn n n = dn n j ++ r := by
  refine ⟨(dn n n).drop j, ?_⟩
  have e : dn n j = (dn n n).take j := by
    unfold dn
    rw [← List.map_take, List.take_range, Nat.min_eq_left h]
  rw [e, List.take_append_drop]
set_option maxRecDepth 4000 in
theorem uaAt_mem {us : List OpP} {k : Nat} (h : k < us.length) : us[k]? = some (uaAt us k) := by
  unfold uaAt
  rw [List.getElem?_eq_getElem h]; rfl
/-- A list of operations told anew, and a number. -/
def NewOps (w : World) (r : List OpP × Int) (e : Ending) (w' : World) : Prop :=
  ∃ A c ds, e = .returned (.tuple #[.slice A r.1.length c, .int .i64 r.2]) ∧ r.1.length ≤ c ∧ LO w' A ds r.1 ∧ Below w.heap.size w w'

/-- What out's box holds between two rounds. -/
def RowAll (w : World) (us : List OpP) (pre : List Nat) (W : World) : Prop := ∃ v ds, Boxed W (w.heap.size + 1 + 1 + 1) 43 v ∧ W.ownsRow w.heap.size 35 21 v ds.length (cellsO ds) ∧ ds.length = pre.length ∧
  pre.map (fun k => (invO (uaAt us k)).2) = pre.map (fun _ => 0) ∧ (∀ (i : Nat) (c : OC) (k : Nat), ds[i]? = some c → pre[i]? = some k → Parts (w.heap.size + 5) v.ownBlock W c (invO (uaAt us k)).1) ∧ True
def IAll (bv : Value) (w : World) (us : List OpP) (pre : List Nat) (W : World) : Prop := RowAll w us pre W ∧ Boxed W w.heap.size 43 (.slice none 0 0) ∧ Boxed W (w.heap.size + 1) 38 (.int .i64 0) ∧ Below w.heap.size w W ∧ w.heap.size + 5 ≤ W.heap.size ∧ Boxed W (w.heap.size + 1 + 1 + 1 + 1) 43 bv
def IStop (w : World) (us : List OpP) (c : Code) (pre : List Nat) (W : World) : Prop := ((c = .ret ∧ ∃ p k, pre = p ++ [k] ∧ p.map (fun k => (invO (uaAt us k)).2) = p.map (fun _ => 0) ∧ (invO (uaAt us k)).2 ≠ 0 ∧ Boxed W (w.heap.size + 1) 38 (.int .i64 (invO (uaAt us k)).2)) ∧ Boxed W w.heap.size 43 (.slice none 0 0)) ∧ Below w.heap.size w W
set_option maxRecDepth 4000 in
theorem iall_own {bv : Value} {w : World} {us : List OpP} {B : Nat} (hB : w.heap.size ≤ B) : OwnFrom B (fun pre W => IAll bv w us pre W) := by
  rintro pre X Y row ⟨⟨v, ds, h1, h2, h3, h4, h5, h6⟩, hS, hE, hBl, hs, hbb⟩ hg hr
  have nb : ∀ b cs t, X.heap[b]? = some (.cells cs t (0, 0)) → some b ≠ row := fun b cs t hb e => by
    obtain ⟨_, o, ho, hc⟩ := hr b e.symm
    rw [hb] at ho; cases ho; cases hc
  refine ⟨⟨v, ds, h1.kept hg (nb _ _ _ h1), h2.kept hg ?_, h3, h4, fun i c k hi hk => (h5 i c k hi hk).grown hg (fun r e => .inr (.inr (hr r e).2)), h6⟩, hS.kept hg (nb _ _ _ hS), hE.kept hg (nb _ _ _ hE), hBl.grown hg hBl.size (fun k e => Nat.le_trans hB (hr k e).1), Nat.le_trans hs hg.size, hbb.kept hg (nb _ _ _ hbb)⟩
  rcases h2.2 with ⟨rfl, _⟩ | ⟨g, cap, cur, rfl, _, hgb, _⟩
  · exact .inl rfl
  · exact .inr (fun e => nb g _ _ hgb (by simpa [Value.ownBlock] using e))
set_option maxRecDepth 4000 in
theorem istop_own {w : World} {us : List OpP} {B : Nat} {c : Code} (hB : w.heap.size ≤ B) : OwnFrom B (fun pre W => IStop w us c pre W) := by
  rintro pre X Y row ⟨⟨⟨hc, p, k, h1, h2, h3, hE⟩, hS⟩, hBl⟩ hg hr
  have nb : ∀ b cs t, X.heap[b]? = some (.cells cs t (0, 0)) → some b ≠ row := fun b cs t hb e => by
    obtain ⟨_, o, ho, hc⟩ := hr b e.symm
    rw [hb] at ho; cases ho; cases hc
  exact ⟨⟨⟨hc, p, k, h1, h2, h3, hE.kept hg (nb _ _ _ hE)⟩, hS.kept hg (nb _ _ _ hS)⟩, hBl.grown hg hBl.size (fun k e => Nat.le_trans hB (hr k e).1)⟩
set_option maxRecDepth 4000 in
theorem row_below {W W' : World} {b n : Nat} {t : TypeId} {size : Nat} {v : Value} {xs : List Value} (h : W.ownsRow b t size v n xs) (hb : Below W.heap.size W W') : W'.ownsRow b t size v n xs :=
  h.kept (row := none) ⟨hb.os, hb.tape, hb.output, hb.size, fun k hk _ => hb.block k hk⟩ (by rcases h.2 with ⟨rfl, _⟩ | ⟨g, cap, cur, rfl, _⟩ <;> simp [Value.ownBlock])
set_option maxRecDepth 4000 in
theorem box_below {W W' : World} {b : Nat} {t : TypeId} {v : Value} (h : Boxed W b t v) (hb : Below W.heap.size W W') : Boxed W' b t v := (hb.block b h.lt).trans h
set_option maxRecDepth 4000 in
theorem others_below {W W' : World} (hb : Below W.heap.size W W') : KeepsOthers W W' := ⟨hb.size, fun k _ hk _ => (hb.block k (Array.getElem?_eq_some_iff.1 hk).1).trans hk⟩
set_option maxRecDepth 4000 in
theorem own_lt {W : World} {b n : Nat} {t : TypeId} {size : Nat} {v : Value} {xs : List Value} (h : W.ownsRow b t size v n xs) : ∀ g, v.ownBlock = some g → g < W.heap.size := fun g hg => by
  rcases h.2 with ⟨rfl, _⟩ | ⟨g2, cap, cur, rfl, _, hgb, _⟩
  · simp [Value.ownBlock] at hg
  · obtain rfl : g2 = g := by simpa [Value.ownBlock] using hg
    exact (Array.getElem?_eq_some_iff.1 hgb).1
set_option maxRecDepth 4000 in
theorem iall_alloc {bv : Value} {w W : World} {us : List OpP} {pre : List Nat} (h : IAll bv w us pre W) (o : Obj) : IAll bv w us pre (W.alloc o) := OwnFrom.alloc (iall_own (Nat.le_refl _)) o h

set_option maxRecDepth 100000 in
set_option maxHeartbeats 8000000 in
theorem ball_at {w : World} {A : Option Addr} {cs : List OC} {us : List OpP} {n cap : Nat} (h : LO w A cs us) (hn : us.length = n) (h1000 : n ≤ 10000) (ht : ∀ (k : Nat) (a : OpP), us[k]? = some a → Tiny a) : Calls Try.prog 17 #[.slice A n cap] w (NewOps w (allO us)) := by
  refine (callsIn_wide (n := 8)).1 ?_
  refine callsIn_of_wp_marks Try.func17 rfl trivial ?_ rfl
  have hmk := fun W => run_mk_ops n h1000 W
  simp only [Try.ntmps17, List.size_toArray, List.length_cons, List.length_nil, Nat.reduceAdd, Nat.reduceSub, Array.replicate_succ, Array.replicate_zero, List.push_toArray, List.append_toArray, List.nil_append, List.cons_append]
  gi_wp2_with (refine ⟨trivial, ?_⟩; gi_at_call 38; refine (backward_in Fence.wide _ trivial rfl _ _ _ _).mono ?_; rintro e w' ⟨rfl, rfl⟩)
  have HT := hd ht
  have HN := hd hn
  have hln : cs.length = n := h.hl.trans hn
  have bS := ((((Boxed.new w 43 (.slice none 0 0)).alloc (.cells #[.int .i64 0] 38)).alloc (.cells (madeCells OC.zero.row (n * 21)) 35)).alloc (.cells #[.slice (some ⟨w.heap.size + 1 + 1, 0, none⟩) 0 n] 43)).alloc (.cells #[.slice A n cap] 43)
  have bE := (((Boxed.new (w.alloc (.cells #[.slice none 0 0] 43)) 38 (.int .i64 0)).alloc (.cells (madeCells OC.zero.row (n * 21)) 35)).alloc (.cells #[.slice (some ⟨w.heap.size + 1 + 1, 0, none⟩) 0 n] 43)).alloc (.cells #[.slice A n cap] 43)
  have rO := ((World.ownsRow_made (base := w.heap.size) (e := 35) (size := 21) ((w.alloc (.cells #[.slice none 0 0] 43)).alloc (.cells #[.int .i64 0] 38)) (madeCells OC.zero.row (n * 21)) n (by simp; omega) (by unfold maxLen; omega) (size_madeCells _ _)).alloc (.cells #[.slice (some ⟨w.heap.size + 1 + 1, 0, none⟩) 0 n] 43)).alloc (.cells #[.slice A n cap] 43)
  have bO := (Boxed.new (((w.alloc (.cells #[.slice none 0 0] 43)).alloc (.cells #[.int .i64 0] 38)).alloc (.cells (madeCells OC.zero.row (n * 21)) 35)) 43 (.slice (some ⟨w.heap.size + 1 + 1, 0, none⟩) 0 n)).alloc (.cells #[.slice A n cap] 43)
  have bB := Boxed.new ((((w.alloc (.cells #[.slice none 0 0] 43)).alloc (.cells #[.int .i64 0] 38)).alloc (.cells (madeCells OC.zero.row (n * 21)) 35)).alloc (.cells #[.slice (some ⟨w.heap.size + 1 + 1, 0, none⟩) 0 n] 43)) 43 (.slice A n cap)
  have hB0 := ((((((Below.refl w.heap.size w).alloc (Nat.le_refl _) (.cells #[.slice none 0 0] 43)).alloc (by simp) (.cells #[.int .i64 0] 38)).alloc (by simp; omega) (.cells (madeCells OC.zero.row (n * 21)) 35)).alloc (by simp; omega) (.cells #[.slice (some ⟨w.heap.size + 1 + 1, 0, none⟩) 0 n] 43))).alloc (by simp; omega) (.cells #[.slice A n cap] 43)
  simp only [World.size_alloc] at bS bE rO bO bB hB0
  have hsz : (((((w.alloc (.cells #[.slice none 0 0] 43)).alloc (.cells #[.int .i64 0] 38)).alloc (.cells (madeCells OC.zero.row (n * 21)) 35)).alloc (.cells #[.slice (some ⟨w.heap.size + 1 + 1, 0, none⟩) 0 n] 43)).alloc (.cells #[.slice A n cap] 43)).heap.size = w.heap.size + 5 := by simp
  obtain ⟨W0, hW0⟩ : ∃ W0, ((((w.alloc (.cells #[.slice none 0 0] 43)).alloc (.cells #[.int .i64 0] 38)).alloc (.cells (madeCells OC.zero.row (n * 21)) 35)).alloc (.cells #[.slice (some ⟨w.heap.size + 1 + 1, 0, none⟩) 0 n] 43)).alloc (.cells #[.slice A n cap] 43) = W0 := ⟨_, rfl⟩
  rw [hW0] at bS bE rO bO bB hB0 hsz ⊢
  clear hW0 hmk
  have hLO := h.later hB0
  refine wpIn_rangeFunc_ownH rfl (by decide) (gf := 56) (lb := #[.pointer (some ⟨w.heap.size + 1 + 1 + 1 + 1, 0, none⟩)]) rfl trivial (enters_of Try.func56 (by kernel_rfl) rfl)
    (back_stops Fence.wide _ trivial rfl (by decide) (w.heap.size + 1 + 1 + 1 + 1) w.heap.size A cs n cap hln (by omega) W0 (by omega) (by omega) bB.cell (h.hv.below hB0)) kpB_t (kpB_b (by omega) (by omega)) (Below.refl _ _) (fun _ => rfl)
    (fun pre W => IAll (.slice A n cap) w us pre W)
    (fun c pre W => IStop w us c pre W)
    (iall_own (by omega)) (fun c => istop_own (by omega))
    ⟨⟨_, [], bO, rO, by simp, rfl, by simp, by simp⟩, bS, bE, hB0, by omega, bB⟩
    (fun k a' W => ∃ Bx, w.heap.size + 5 ≤ Bx ∧ VarO W Bx (ocAt cs k) ∧ a' = { tmps := #[.slice A n cap, undef, .pointer (some ⟨w.heap.size, 0, none⟩), .pointer (some ⟨w.heap.size + 1, 0, none⟩), .pointer (some ⟨w.heap.size + 1 + 1 + 1, 0, none⟩), undef, .pointer (some ⟨Bx, 0, none⟩), undef, undef, .slice A n cap, .int .i64 n, .slice (some ⟨w.heap.size + 1 + 1, 0, none⟩) 0 n, .slice A n cap, .func (.func 56) #[] #[.pointer (some ⟨w.heap.size + 1 + 1 + 1 + 1, 0, none⟩)], .int .i64 k, .agg (ocAt cs k).row, undef, undef, undef, undef, undef, undef, undef, undef, undef, undef, undef, undef, undef], defers := [] })
    (fun k a' _ X Y row hs hg hr => by
      obtain ⟨Bx, e1, e2, e3⟩ := hs
      refine ⟨Bx, e1, (hg.block Bx e2.lt (fun e => ?_)).trans e2, e3⟩
      obtain ⟨_, o, ho, hc⟩ := hr _ e.symm
      unfold VarO at e2
      rw [e2] at ho
      cases ho; cases hc)
    ?assign ?body ?done ?stop
  case assign =>
    rintro l pre k W K hi hK
    gi_wp2_with ((with_reducible refine gdi_store (ty := 35) (x := .tmp 6) ?_); refine wpListIn_store_oc (c := ocAt cs k) _ _ rfl rfl rfl rfl rfl rfl rfl ?_)
    exact hK _ _ ((KeepsOthers.alloc _ _).from _) ⟨(Below.refl _ W).alloc (by have := hi.2.2.2.1.size; omega) _, World.cell?_alloc_lt _ _ _ (by show w.heap.size + 1 + 1 + 1 + 1 < W.heap.size; have := hi.2.2.2.2.1; omega)⟩ (iall_alloc hi _) ⟨W.heap.size, by have := hi.2.2.2.2.1; omega, VarO.new W _, rfl⟩
  case body =>
    rintro l pre k a' W hl ⟨r, hr⟩ ⟨⟨v, ds, hv, hrow, hlen, hz, hp, _⟩, hS, hE, hB, hs, hbb⟩ ⟨Bx, hBx, hX, rfl⟩ hlt
    have HOK := hd ((h.later hB).ok_at k)
    have HTA := hd (tiny_at HT.out k)
    have HX := hd hX
    have HLT := hd (Array.getElem?_eq_some_iff.1 hr).1
    obtain ⟨⟨x, er⟩, hin⟩ : ∃ r, invO (uaAt us k) = r := ⟨_, rfl⟩
    have HIN := hd hin
    have hlt2 : ds.length < 10000 := by omega
    by_cases he : er = 0
    · subst he
      gi_upto_region 7 with (first
        | ((with_reducible refine gdi_load (ty := 35) (x := .tmp 6) ?_); refine wpListIn_load_oc HX.out _ rfl rfl rfl ?_)
        | (refine ⟨trivial, ?_⟩; gi_at_call 11; refine (CallsIn.inRound l (callsIn_wide.2 (inverse_at W _ _ HOK.out HTA.out))).mono ?_; rintro e w3 ⟨cx, rfl, hs3, b9⟩; rw [HIN.out]; rw [HIN.out] at hs3; dsimp only)
        | ((with_reducible refine gdi_store (ty := 35) (x := .tmp 7) ?_); refine wpListIn_store_oc (c := cx) _ _ rfl rfl rfl rfl rfl rfl rfl ?_))
      have hk3 : KeepsOthers W (w3.alloc (.cells cx.row 35)) := (others_below b9).trans (KeepsOthers.alloc _ _)
      have hbb9 : Below W.heap.size W (w3.alloc (.cells cx.row 35)) := b9.alloc (by have := b9.size; omega) _
      have hN : Parts (w.heap.size + 5) v.ownBlock (w3.alloc (.cells cx.row 35)) cx x := (parts_new hs3 hs (own_lt hrow)).grown (World.grownBy_alloc _ _ none) (fun r e => by cases e)
      have HV7 := hd (VarO.new w3 cx)
      obtain ⟨g7, hg7⟩ : ∃ g, w3.heap.size = g := ⟨_, rfl⟩
      rw [hg7] at HV7 ⊢
      obtain ⟨W5, hW5⟩ : ∃ W5, w3.alloc (.cells cx.row 35) = W5 := ⟨_, rfl⟩
      rw [hW5] at hk3 hbb9 hN HV7 ⊢
      clear hW5 hg7 hs3 b9
      have hS5 := box_below hS hbb9
      have hE5 := box_below hE hbb9
      have hv5 := box_below hv hbb9
      have hbb5 := box_below hbb hbb9
      have hr5 := row_below hrow hbb9
      have hp5 : ∀ (i : Nat) (c : OC) (k : Nat), ds[i]? = some c → pre[i]? = some k → Parts (w.heap.size + 5) v.ownBlock W5 c (invO (uaAt us k)).1 := fun i c k hi hk => (hp i c k hi hk).below hbb9
      have hsz5 := hbb9.size
      have hB5 := hB.trans (hbb9.mono hB.size)
      have s5 := hv5.cell
      have s6 := hv5.frozen
      have HP5 := hd hp5
      have HR5 := hd hr5
      have HK3 := hd hk3
      have HNN := hd hN
      have HB5 := hd hB5
      have HBC := hd hbb.cell
      have HB9 := hd hbb9
      clear hp hp5 hk3 hN hB5 hr5 hrow hS hE hv hbb hbb9
      gi_wp2_with (first
        | ((with_reducible refine gdi_load (ty := 35) (x := .tmp 7) ?_); refine wpListIn_load_oc HV7.out _ rfl rfl rfl ?_)
        | ((with_reducible refine gdi_build ?_); refine wpListIn_build_op (c := cx) _ rfl rfl rfl ?_)
        | ((with_reducible refine gdi_app ?_); refine wpListIn_append_op W5 rfl _ _ rfl w.heap.size v ds.length (cellsO ds) rfl HR5.out cx rfl (by omega) (by have := HB5.out.size; omega) ?_; intro g' cap' w1 hown' hgrow hat; obtain ⟨hv1, hv2, hr2, hk2, hb2⟩ := hv5.appended (by decide) HR5.out HB5.out.size (by omega) hown' hgrow; have hc1 := hv1.cell; have hf1 := hv1.frozen))
      have hX : Boxed w1 (w.heap.size + 1 + 1 + 1 + 1) 43 (.slice A n cap) := (hbb5.alloc _).kept hgrow (hbb5.not_row (by decide) HR5.out)
      have hSx : Boxed w1 w.heap.size 43 (.slice none 0 0) := (hS5.alloc _).kept hgrow (hS5.not_row (by decide) HR5.out)
      have hEx : Boxed w1 (w.heap.size + 1) 38 (.int .i64 0) := (hE5.alloc _).kept hgrow (hE5.not_row (by decide) HR5.out)
      have hgr : ∀ (c : OC) (a : OpP), Parts (w.heap.size + 5) v.ownBlock W5 c a → Parts (w.heap.size + 5) (some g') (w1.setCell ⟨w.heap.size + 1 + 1 + 1, 0, none⟩ (.slice (some ⟨g', 0, none⟩) (ds.length + 1) cap')) c a := fun c a h =>
        ((h.grown (World.grownBy_alloc _ _ none) (fun r e => by cases e)).appended hgrow (hat.imp (fun e => e) (fun e => ⟨g', rfl, by rw [e]; simp⟩))).grown (grownBy_setCell' _ _ _) (fun r e => by injection e with e; exact .inl (by omega))
      rw [← hlen]
      refine ⟨(HK3.out.trans hk2).from _, ⟨(HB9.out.mono hB.size).trans hb2, ((hX.other (by omega) _).cell).trans HBC.out.symm⟩, ⟨⟨_, ds ++ [cx], hv2, ?_, by simp [hlen], ?_, ?_, trivial⟩, hSx.other (by omega) _, hEx.other (by omega) _, HB5.out.trans hb2, by have := hk2.size; omega, hX.other (by omega) _⟩⟩
      · rw [List.length_append, cellsO_app, cellsO_one]; exact hr2
      · rw [List.map_append, List.map_append, hz]; simp [HIN.out]
      · intro i c k' hi hk'
        rcases Nat.lt_or_ge i ds.length with h1 | h1
        · rw [List.getElem?_append_left h1] at hi
          rw [List.getElem?_append_left (by omega)] at hk'
          exact hgr c _ (HP5.out i c k' hi hk')
        · have h2 : i = ds.length := by
            have := (List.getElem?_eq_some_iff.1 hi).1
            simp at this; omega
          subst h2
          rw [List.getElem?_append_right (Nat.le_refl _), Nat.sub_self] at hi
          rw [hlen, List.getElem?_append_right (Nat.le_refl _), Nat.sub_self] at hk'
          simp only [List.getElem?_cons_zero, Option.some.injEq] at hi hk'
          subst hi
          subst hk'
          have h3 := hgr _ _ HNN.out
          rw [HIN.out]
          exact h3
    · have ein : (er != 0) = true := by simpa using he
      gi_wp2_with (first
        | ((with_reducible refine gdi_load (ty := 35) (x := .tmp 6) ?_); refine wpListIn_load_oc HX.out _ rfl rfl rfl ?_)
        | (refine ⟨trivial, ?_⟩; gi_at_call 11; refine (CallsIn.inRound l (callsIn_wide.2 (inverse_at W _ _ HOK.out HTA.out))).mono ?_; rintro e w3 ⟨cx, rfl, hs3, b9⟩; rw [HIN.out]; dsimp only)
        | ((with_reducible refine gdi_store (ty := 35) (x := .tmp 7) ?_); refine wpListIn_store_oc (c := cx) _ _ rfl rfl rfl rfl rfl rfl rfl ?_; have hS3 := (box_below hS b9).alloc (.cells cx.row 35); have hE3 := (box_below hE b9).alloc (.cells cx.row 35); have hv3 := (box_below hv b9).alloc (.cells cx.row 35); have hbb3 := (box_below hbb b9).alloc (.cells cx.row 35); have hr3 := (row_below hrow b9).alloc (.cells cx.row 35); have HV7 := hd (VarO.new w3 cx); have s1 := hS3.cell; have s2 := hS3.frozen; have s3 := hE3.cell; have s4 := hE3.frozen; have s5 := hv3.cell; have s6 := hv3.frozen))
      have hk3 : KeepsOthers W (w3.alloc (.cells cx.row 35)) := (others_below b9).trans (KeepsOthers.alloc _ _)
      have hb3 : Below w.heap.size w (w3.alloc (.cells cx.row 35)) := (hB.trans (b9.mono hB.size)).alloc (by have := hB.size; have := b9.size; omega) _
      refine ⟨((hk3.trans (KeepsOthers.setCell _ _ _)).trans (KeepsOthers.setCell _ _ _)).from _, ⟨⟨rfl, pre, k, rfl, hz, by rw [HIN.out]; exact he, by rw [HIN.out]; exact (hE3.other (by omega) _).set _⟩, (hS3.set _).other (by omega) _⟩, (hb3.setCell (p := ⟨w.heap.size, 0, none⟩) (by simp) _).setCell (p := ⟨w.heap.size + 1, 0, none⟩) (by simp) _⟩
  case done =>
    rintro D xs W hD rfl ⟨⟨v, ds, hv, hrow, hlen, hz, hp, _⟩, hS, hE, hB, hs, hbb⟩ hK
    obtain ⟨Av, cv, rfl, hcv, hvl⟩ := row_vl hrow
    have s1 := hv.cell
    have s2 := hS.frozen
    have s3 := hE.frozen
    have s4 := hS.cell
    have s5 := hE.cell
    have HP := hd hp
    have HZ := hd hz
    have HVL := hd hvl
    have HLEN := hd hlen
    have HBB := hd hB
    have HROW := hd hrow
    clear hp hz hvl hlen hB hrow hbb
    gi_wp2
    have hK' := ((KeepsOthers.setCell W ⟨w.heap.size, 0, none⟩ (.slice Av ds.length cv)).trans (KeepsOthers.setCell _ ⟨w.heap.size + 1, 0, none⟩ (.int .i64 0))).same D _ hK rfl
    refine ⟨by simp, .inl ⟨_, _, rfl, run_takeDeferred hK', ?_⟩⟩
    have c1 := cell_kept ((hS.set (.slice Av ds.length cv)).other (show w.heap.size ≠ w.heap.size + 1 by omega) (.int .i64 0)).cell (grownBy_putObj' _ D (.deferred none)) (fun r e => by cases e; exact ⟨_, hK', rfl⟩)
    have c2 := cell_kept ((hE.other (show w.heap.size + 1 ≠ w.heap.size by omega) (.slice Av ds.length cv)).set (.int .i64 0)).cell (grownBy_putObj' _ D (.deferred none)) (fun r e => by cases e; exact ⟨_, hK', rfl⟩)
    have hb := ((HBB.out.setCell (p := ⟨w.heap.size, 0, none⟩) (by simp) (.slice Av ds.length cv)).setCell (p := ⟨w.heap.size + 1, 0, none⟩) (by simp) (.int .i64 0)).trans (belowK_b (w := w) (Nat.le_refl _) _ D _ (.deferred none) (by omega) hK' rfl rfl)
    have r1 := HROW.out.kept (grownBy_setCell' W w.heap.size (.slice Av ds.length cv)) (.inr (hS.not_row (by decide) HROW.out).symm)
    have r2 := r1.kept (grownBy_setCell' _ (w.heap.size + 1) (.int .i64 0)) (.inr ((hE.other (show w.heap.size + 1 ≠ w.heap.size by omega) (.slice Av ds.length cv)).not_row (by decide) r1).symm)
    have r3 := ownsRow_putObj r2 (.deferred none) hK' rfl
    have hfin : ∀ (c : OC) (a : OpP), Parts (w.heap.size + 5) (Value.slice Av ds.length cv).ownBlock W c a → OkA (((W.setCell ⟨w.heap.size, 0, none⟩ (.slice Av ds.length cv)).setCell ⟨w.heap.size + 1, 0, none⟩ (.int .i64 0)).putObj D (.deferred none)) c a := fun c a h =>
      (((h.grown (grownBy_setCell' _ _ _) (fun r e => by injection e with e; exact .inl (by omega))).grown (grownBy_setCell' _ _ _) (fun r e => by injection e with e; exact .inl (by omega))).grown (grownBy_putObj' _ D (.deferred none)) (fun r e => by injection e with e; subst e; exact .inr (.inr ⟨_, hK', rfl⟩))).ok
    have hall : allO us = (((dn n n).map (uaAt us)).map (fun a => (invO a).1), 0) := by
      unfold allO
      rw [dn_ops us, hn]
      exact invs_ok fun a ha => by
        obtain ⟨k, hk, rfl⟩ := List.mem_map.1 ha
        exact List.map_inj_left.1 HZ.out k hk
    have hlen2 : (((dn n n).map (uaAt us)).map (fun a => (invO a).1)).length = ds.length := by rw [List.length_map, List.length_map, HLEN.out]
    obtain ⟨A3, c3, e3, _, hv3⟩ := row_vl r3
    injection e3 with e3
    subst e3
    refine ⟨.tuple #[.slice Av ds.length cv, .int .i64 0], by simp [results, Try.f17, go_sem, c1, c2], ?_⟩
    rw [hall]
    refine ⟨Av, cv, ds, by rw [hlen2], by rw [hlen2]; exact hcv, ⟨hv3, hlen2.symm, fun k c a hc ha => ?_⟩, hb⟩
    rw [List.getElem?_map, List.getElem?_map] at ha
    cases e : (dn n n)[k]? with
    | none => rw [e] at ha; cases ha
    | some j =>
      rw [e] at ha
      injection ha with ha
      subst ha
      exact hfin _ _ (HP.out k c j hc e)
  case stop =>
    rintro D c pre W hD ⟨j, hj, rfl⟩ ⟨⟨⟨rfl, p, k, hpre, hz, hne, hE⟩, hS⟩, hB⟩ hK
    gi_wp2
    refine ⟨by simp, .inl ⟨_, _, rfl, run_takeDeferred hK, ?_⟩⟩
    have c1 := cell_kept hS.cell (grownBy_putObj' _ D (.deferred none)) (fun r e => by cases e; exact ⟨_, hK, rfl⟩)
    have c2 := cell_kept hE.cell (grownBy_putObj' _ D (.deferred none)) (fun r e => by cases e; exact ⟨_, hK, rfl⟩)
    have hall : allO us = ([], (invO (uaAt us k)).2) := by
      obtain ⟨r, hr⟩ := dn_cut n j hj
      unfold allO
      rw [dn_ops us, hn, hr, hpre, List.append_assoc, List.map_append]
      exact invs_stop (fun b hb => by
        obtain ⟨i, hi, rfl⟩ := List.mem_map.1 hb
        exact List.map_inj_left.1 hz i hi) hne
    refine ⟨.tuple #[.slice none 0 0, .int .i64 (invO (uaAt us k)).2], by simp [results, Try.f17, go_sem, c1, c2], ?_⟩
    rw [hall]
    exact ⟨none, 0, [], rfl, Nat.le_refl _, LO.nil _ _, hB.trans (belowK_b (w := w) (Nat.le_refl _) W D _ _ (by omega) hK rfl rfl)⟩

end Go.Proofs.Ytdjajpookmmafaa
