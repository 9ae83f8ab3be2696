/- The walk of all paths: what its variables hold. -/
import Derived.Test.YtggapngibkeodaaTRPth
import Derived.ArgAppend
namespace Go.Proofs.Ytggapngibkeodaa
open Go.RowKit
open Go.WideShapes (add_plain)

/-- Where the variables lie. -/
structure Bx (B gq go gh gw : Nat) : Prop where
  q : B ≤ gq
  o : B ≤ go
  h : B ≤ gh
  k : B ≤ gw
  oq : go ≠ gq
  oh : go ≠ gh
  ok : go ≠ gw
  hq : gh ≠ gq
  hk : gh ≠ gw
/-- What they hold: what is asked, the walk, the paths told so far, the path at hand. -/
structure St (B gq go gh gw : Nat) (fid : FuncId) (w : World) (vo vh : Value) (L : List (List Int)) (h : List Int) : Prop where
  asked : w.cell? ⟨gq, 0, none⟩ = some (.func (.func fid) #[] #[])
  walk : w.cell? ⟨gw, 0, none⟩ = some (.func (.func 65) #[] #[.pointer (some ⟨gq, 0, none⟩), .pointer (some ⟨go, 0, none⟩), .pointer (some ⟨gh, 0, none⟩), .pointer (some ⟨gw, 0, none⟩)])
  out : w.heap[go]? = some (.cells #[vo] 41 (0, 0))
  here : w.heap[gh]? = some (.cells #[vh] 27 (0, 0))
  row : ∃ vs : List Value, vs.length = L.length ∧ w.ownsRow B 27 1 vo L.length vs ∧ ∀ k u, vs[k]? = some u → OwnI w B u (lAt L k) ∧ ∀ j, u.ownBlock = some j → vh.ownBlock ≠ some j
  own : OwnI w B vh h
  apo : vo.ownBlock ≠ some gq ∧ vo.ownBlock ≠ some go ∧ vo.ownBlock ≠ some gh ∧ vo.ownBlock ≠ some gw
  aph : vh.ownBlock ≠ some gq ∧ vh.ownBlock ≠ some go ∧ vh.ownBlock ≠ some gh ∧ vh.ownBlock ≠ some gw

theorem OwnI.set {w : World} {B g k : Nat} {u x : Value} {l : List Int} {cs : Array Value} {t : TypeId} {fr : Nat × Nat} (h : OwnI w B u l) (hg : w.heap[g]? = some (.cells cs t fr)) (ht : t ≠ 3) : OwnI (w.setCell ⟨g, k, none⟩ x) B u l := by
  refine OwnI.of_own (ownsRow_setCell_other h.own (a := ⟨g, k, none⟩) (fun e => ?_) _) rfl
  rcases h.own.2 with ⟨e1, _⟩ | ⟨g', cap, cur, e1, _, hg', _⟩
  · rw [e1] at e; cases e
  · rw [e1] at e
    injection e with e
    have e : g' = g := e
    subst e
    rw [hg] at hg'
    injection hg' with hg'
    injection hg' with _ h2
    exact ht h2
theorem OwnI.kept {w w' : World} {B : Nat} {u : Value} {l : List Int} {o : Option Nat} (h : OwnI w B u l) (hg : w.grownBy w' o) (hne : ∀ j, u.ownBlock = some j → o ≠ some j) : OwnI w' B u l := by
  refine OwnI.of_own (h.own.kept hg ?_) rfl
  cases hu : u.ownBlock with
  | none => exact .inl rfl
  | some j => exact .inr (fun e => hne j hu e.symm)
theorem OwnI.less {w : World} {B n c : Nat} {A : Option Addr} {l : List Int} {i : Int} (h : OwnI w B (.slice A (n + 1) c) (l ++ [i])) (hn : l.length = n) : OwnI w B (.slice A n c) l := by
  have h1 := h.own
  rw [List.length_append, hn] at h1
  refine OwnI.of_own (n := n) ⟨by simp [hn], ?_⟩ hn.symm
  rcases h1.2 with ⟨_, e0⟩ | ⟨g, cap, cur, e, hB, hg, hc, hm, hs, hx⟩
  · simp at e0
  · injection e with e1 e2 e3
    refine .inr ⟨g, cap, cur, by rw [e1, e3], hB, hg, by simp at hc; omega, hm, hs, ?_⟩
    have h2 := congrArg (List.take (n * 1)) hx
    rw [List.take_take, show min (n * 1) ((n + [i].length) * 1) = n * 1 by simp] at h2
    rw [h2, List.map_append, List.take_append_of_le_length (by simp [hn]), List.take_of_length_le (by simp [hn])]
theorem own_type {w : World} {b n size g : Nat} {t t' : TypeId} {v : Value} {xs : List Value} {cs : Array Value} {fr : Nat × Nat} (h : w.ownsRow b t size v n xs) (hg : w.heap[g]? = some (.cells cs t' fr)) (ht : t' ≠ t) : v.ownBlock ≠ some g := fun e => by
  rcases h.2 with ⟨e1, _⟩ | ⟨g', cap, cur, e1, _, hg', _⟩
  · rw [e1] at e; cases e
  · rw [e1] at e
    injection e with e
    have e : g' = g := e
    subst e
    rw [hg] at hg'
    injection hg' with hg'
    injection hg' with _ h2
    exact ht h2

section
variable {B gq go gh gw : Nat} {fid : FuncId} {w wx w2 : World} {vo vh : Value} {L : List (List Int)} {h : List Int}
theorem St.below {w' : World} (s : St B gq go gh gw fid w vo vh L h) (hb : Below w.heap.size w w') : St B gq go gh gw fid w' vo vh L h := by
  obtain ⟨vs, h1, h2, h3⟩ := s.row
  exact ⟨(hb.cell (cell_in s.asked)).trans s.asked, (hb.cell (cell_in s.walk)).trans s.walk, keepBlk s.out hb, keepBlk s.here hb, ⟨vs, h1, ownsRow_below h2 hb, fun k u hu => ⟨(h3 k u hu).1.below hb, (h3 k u hu).2⟩⟩, s.own.below hb, s.apo, s.aph⟩
theorem St.push (bx : Bx B gq go gh gw) {vs : List Value} {vo' v5 : Value} {l : List Int} {nl : Nat} (s : St B gq go gh gw fid w vo vh L h) (hb : Below w.heap.size w wx) (hnl : nl = L.length) (hv1 : vs.length = L.length) (hv2 : w.ownsRow B 27 1 vo nl vs) (hv3 : ∀ k u, vs[k]? = some u → OwnI w B u (lAt L k) ∧ ∀ j, u.ownBlock = some j → vh.ownBlock ≠ some j)
    (h5 : OwnI wx B v5 l) (hf5 : ∀ j, v5.ownBlock = some j → w.heap.size ≤ j) (hown : w2.ownsRow B 27 1 vo' (nl + 1) (vs ++ [v5])) (hgrow : wx.grownBy w2 vo.ownBlock) (hat : vo'.ownBlock = vo.ownBlock ∨ ∃ g, vo'.ownBlock = some g ∧ wx.heap.size ≤ g) :
    St B gq go gh gw fid (w2.setCell ⟨go, 0, none⟩ vo') vo' vh (L ++ [l]) h := by
  subst hnl
  have x := s.below hb
  have lq := cell_in x.asked
  have lk := cell_in x.walk
  have lo := lt_of_block x.out
  have lh := lt_of_block x.here
  have lq : gq < wx.heap.size := lq
  have lk : gw < wx.heap.size := lk
  have gb : ∀ b, b < wx.heap.size → vo.ownBlock ≠ some b → w2.heap[b]? = wx.heap[b]? := fun b h1 h2 => hgrow.block b h1 (fun e => h2 e.symm)
  have ho2 : w2.heap[go]? = some (.cells #[vo] 41 (0, 0)) := (gb go lo x.apo.2.1).trans x.out
  have ap' := fun g (h1 : vo.ownBlock ≠ some g) (h2 : g < wx.heap.size) => apart_step h1 h2 hat
  have hrow := ownsRow_below hv2 hb
  refine ⟨?_, ?_, ?_, ?_, ⟨vs ++ [v5], by simp [hv1], ?_, fun k u hu => ?_⟩, ?_, ⟨ap' _ x.apo.1 lq, ap' _ x.apo.2.1 lo, ap' _ x.apo.2.2.1 lh, ap' _ x.apo.2.2.2 lk⟩, x.aph⟩
  · exact (World.cell?_of_block (a := ⟨gq, 0, none⟩) ((Below.heap_setCell _ _ _ _ (by show gq ≠ go; exact bx.oq.symm)).trans (gb gq lq x.apo.1))).trans x.asked
  · exact (World.cell?_of_block (a := ⟨gw, 0, none⟩) ((Below.heap_setCell _ _ _ _ (by show gw ≠ go; exact bx.ok.symm)).trans (gb gw lk x.apo.2.2.2))).trans x.walk
  · rw [setCell_block ho2]; rfl
  · exact (Below.heap_setCell _ _ _ _ (by show gh ≠ go; exact bx.oh.symm)).trans ((gb gh lh x.apo.2.2.1).trans x.here)
  · rw [List.length_append]; exact ownsRow_setCell_other hown (a := ⟨go, 0, none⟩) (ap' _ x.apo.2.1 lo) _
  · rcases Nat.lt_or_ge k L.length with hl | hl
    · rw [List.getElem?_append_left (by omega)] at hu
      rw [lAt_append_left hl]
      exact ⟨(((hv3 k u hu).1.below hb).grown hrow hgrow).set ho2 (by decide), (hv3 k u hu).2⟩
    · rw [List.getElem?_append_right (by omega)] at hu
      have hk0 : k - vs.length = 0 := by
        have := (List.getElem?_eq_some_iff.1 hu).1
        simp at this; omega
      rw [hk0] at hu
      have hu : v5 = u := by simpa using hu
      subst hu
      have : lAt (L ++ [l]) k = l := by
        have : k = L.length := by omega
        subst this
        simp [lAt]
      rw [this]
      exact ⟨(h5.grown hrow hgrow).set ho2 (by decide), fun j hj e => by have := hf5 j hj; have := (s.own.lt e).2; omega⟩
  · exact (x.own.grown hrow hgrow).set ho2 (by decide)
theorem St.more (bx : Bx B gq go gh gw) {vh' : Value} {i : Int} {n : Nat} (s : St B gq go gh gw fid w vo vh L h) (hb : Below w.heap.size w wx) (hn : n = h.length) (hown : w2.ownsRow B 3 1 vh' (n + 1) (h.map (Value.int .i64) ++ [.int .i64 i])) (hgrow : wx.grownBy w2 vh.ownBlock) (hat : vh'.ownBlock = vh.ownBlock ∨ ∃ g, vh'.ownBlock = some g ∧ wx.heap.size ≤ g) :
    St B gq go gh gw fid (w2.setCell ⟨gh, 0, none⟩ vh') vo vh' L (h ++ [i]) := by
  subst hn
  have x := s.below hb
  have lq : gq < wx.heap.size := cell_in x.asked
  have lk : gw < wx.heap.size := cell_in x.walk
  have lo := lt_of_block x.out
  have lh := lt_of_block x.here
  have gb : ∀ b, b < wx.heap.size → vh.ownBlock ≠ some b → w2.heap[b]? = wx.heap[b]? := fun b h1 h2 => hgrow.block b h1 (fun e => h2 e.symm)
  have hh2 : w2.heap[gh]? = some (.cells #[vh] 27 (0, 0)) := (gb gh lh x.aph.2.2.1).trans x.here
  have ap' := fun g (h1 : vh.ownBlock ≠ some g) (h2 : g < wx.heap.size) => apart_step h1 h2 hat
  obtain ⟨vs, hv1, hv2, hv3⟩ := x.row
  refine ⟨?_, ?_, ?_, ?_, ⟨vs, hv1, ?_, fun k u hu => ⟨?_, fun j hj => ?_⟩⟩, ?_, x.apo, ⟨ap' _ x.aph.1 lq, ap' _ x.aph.2.1 lo, ap' _ x.aph.2.2.1 lh, ap' _ x.aph.2.2.2 lk⟩⟩
  · exact (World.cell?_of_block (a := ⟨gq, 0, none⟩) ((Below.heap_setCell _ _ _ _ (by show gq ≠ gh; exact bx.hq.symm)).trans (gb gq lq x.aph.1))).trans x.asked
  · exact (World.cell?_of_block (a := ⟨gw, 0, none⟩) ((Below.heap_setCell _ _ _ _ (by show gw ≠ gh; exact bx.hk.symm)).trans (gb gw lk x.aph.2.2.2))).trans x.walk
  · exact (Below.heap_setCell _ _ _ _ (by show go ≠ gh; exact bx.oh)).trans ((gb go lo x.aph.2.1).trans x.out)
  · rw [setCell_block hh2]; rfl
  · exact ownsRow_setCell_other (hv2.kept hgrow (own_apart x.own.own hv2 (by decide))) (a := ⟨gh, 0, none⟩) x.apo.2.2.1 _
  · exact ((hv3 k u hu).1.kept hgrow (hv3 k u hu).2).set hh2 (by decide)
  · have hlt := ((hv3 k u hu).1.lt hj).2
    rcases hat with e | ⟨g, e, hg⟩
    · rw [e]; exact (hv3 k u hu).2 j hj
    · rw [e]; intro e2; injection e2 with e2; omega
  · have := OwnI.of_own (l := h ++ [i]) (n := h.length + 1) (by rw [List.map_append]; exact hown) (by simp)
    exact this.set hh2 (by decide)
theorem St.less (bx : Bx B gq go gh gw) {A : Option Addr} {n c : Nat} {i : Int} (s : St B gq go gh gw fid w vo (.slice A (n + 1) c) L (h ++ [i])) (hn : h.length = n) : St B gq go gh gw fid (w.setCell ⟨gh, 0, none⟩ (.slice A n c)) vo (.slice A n c) L h := by
  have e : (Value.slice A n c).ownBlock = (Value.slice A (n + 1) c).ownBlock := by cases A <;> rfl
  obtain ⟨vs, hv1, hv2, hv3⟩ := s.row
  refine ⟨?_, ?_, ?_, ?_, ⟨vs, hv1, ?_, fun k u hu => ⟨(hv3 k u hu).1.set s.here (by decide), fun j hj => ?_⟩⟩, ?_, s.apo, by rw [e]; exact s.aph⟩
  · exact (World.cell?_of_block (a := ⟨gq, 0, none⟩) (Below.heap_setCell _ _ _ _ (by show gq ≠ gh; exact bx.hq.symm))).trans s.asked
  · exact (World.cell?_of_block (a := ⟨gw, 0, none⟩) (Below.heap_setCell _ _ _ _ (by show gw ≠ gh; exact bx.hk.symm))).trans s.walk
  · exact (Below.heap_setCell _ _ _ _ (by show go ≠ gh; exact bx.oh)).trans s.out
  · rw [setCell_block s.here]; rfl
  · exact ownsRow_setCell_other hv2 (a := ⟨gh, 0, none⟩) s.apo.2.2.1 _
  · rw [e]; exact (hv3 k u hu).2 j hj
  · exact (s.own.less hn).set s.here (by decide)
end

theorem step_append_grows {ts te : TypeId} {size by_ : Nat} (E : ElemG ts te size by_) (W : World) {ops : Array Oper} {o : Oper} {a : Act} {K : Act → World → Prop} {Q : Exit → Act → World → Prop} {F : Prop} (hgd : o.guard = none) (s x : Operand)
    (ho : o.op = .call { callee := .builtin .append, args := #[s, x], argTypes := #[ts, ts] })
    (ao : Option Addr) (n cap : Nat) (olds : List Value) (hs : a.eval s = .slice ao n cap) (hnone : ao = none → n = 0 ∧ cap = 0) (hlo : olds.length = n * size) (holds : ∀ b, ao = some b → ∀ j u, olds[j]? = some u → W.cell? (b.add j) = some u)
    (ad : Addr) (m c : Nat) (news : List Value) (hx : a.eval x = .slice (some ad) m c) (hn : news.length = m * size) (hc : ∀ j u, news[j]? = some u → W.cell? (ad.add j) = some u) (h1c : ∀ u ∈ news, u.oneCell' = true)
    (hfull : cap < n + m) (b1 : n + m ≤ maxLen) (b2 : (n + m) * by_ ≤ 140737488355328)
    (hK : ∀ v' w', w'.ownsRow W.heap.size te size v' (n + m) (olds ++ news) → W.grownBy w' none → K (a.put o.dst v') w') :
    if Region.wanted o (yielded ops a.tmps) = true then Oper.wp Try.prog o a W K Q else F := by
  have hw : Region.wanted o (yielded ops a.tmps) = true := by simp [Region.wanted, hgd]
  rw [if_pos hw]
  obtain ⟨i, z, h2, h3, h4, h5, h6⟩ := E.info
  cases ao with
  | some b =>
    obtain ⟨v', w', hrun, r1, r2⟩ := run_append_arg_grows (P := Try.prog) W ts o.type te i z size by_ E.under h2 h3 h4 h5 h6 E.pos b n cap olds hlo (holds b rfl) ad m c news hn hc hfull b1 b2
    unfold Oper.wp
    simp [execOp, ho, resolve, invoke, builtin, hs, hx, hrun, Result.andThen]
    exact hK v' w' r1 r2
  | none =>
    obtain ⟨rfl, rfl⟩ := hnone rfl
    obtain rfl : olds = [] := List.eq_nil_of_length_eq_zero (by simpa using hlo)
    obtain ⟨v', w', hrun, r1, r2, _⟩ := run_append_own (P := Try.prog) W W.heap.size ts o.type te i z size by_ E.under h2 h3 h4 h5 h6 E.pos (.slice none 0 0) 0 [] (World.ownsRow_nil W _ te size) ad m c news hn hc h1c b1 b2 (Nat.le_refl _)
    unfold Oper.wp
    simp [execOp, ho, resolve, invoke, builtin, hs, hx, hrun, Result.andThen]
    exact hK v' w' r1 r2
theorem one_cell {w : World} {g : Nat} {v : Value} {t : TypeId} (h : w.heap[g]? = some (.cells #[v] t (0, 0))) : w.cell? ⟨g, 0, none⟩ = some v ∧ w.frozen? ⟨g, 0, none⟩ = false := by
  constructor <;> simp [World.cell?, World.frozen?, h]
theorem own_olds {w : World} {B n c : Nat} {A : Option Addr} {l : List Int} (h : OwnI w B (.slice A n c) l) (hn : l.length = n) : (∀ w', Below w.heap.size w w' → A = none → n = 0 ∧ n = 0) ∧ (l.map (Value.int .i64)).length = n * 1 ∧ ∀ w', Below w.heap.size w w' → ∀ b, A = some b → ∀ j u, (l.map (Value.int .i64))[j]? = some u → w'.cell? (b.add j) = some u := by
  have hown := h.own
  rw [hn] at hown
  refine ⟨fun _ _ e => ?_, by simp [hn], fun w' hb b e j u hu => ?_⟩
  · rcases hown.2 with ⟨_, e0⟩ | ⟨g, cap, cur, e1, _⟩
    · exact ⟨e0, e0⟩
    · rw [e] at e1; injection e1 with e1; cases e1
  · obtain ⟨b', o', e2, hlt, hc⟩ := own_vl hown (fun e0 => by rw [e0] at hu; simp at hu)
    rw [e] at e2
    injection e2 with e2
    subst e2
    rw [add_plain]
    exact (hb.cell (p := ⟨b', o' + j, none⟩) hlt).trans (hc j u hu)
theorem new_cells (w : World) (x : Value) (t : TypeId) : ∀ j u, [x][j]? = some u → (w.alloc (.cells #[x] t)).cell? ((⟨w.heap.size, 0, none⟩ : Addr).add j) = some u := fun j u hu => by
  match j, hu with
  | 0, hu =>
    simp at hu
    subst hu
    rw [add_plain, Nat.zero_add, World.cell?_alloc_at _ _ _ _ rfl]; rfl
  | j + 1, hu => simp at hu
/-- What is asked of a node. -/
structure Ask (fid : FuncId) (lv : Bool) : Prop where
  enters : ∀ args w, (callFunc fid args).run Try.prog w = .ok (.enter fid args) w
  does : ∀ d w v n, NodeAt d w w.heap.size v n → Calls Try.prog fid #[v] w (Still (.bool (n.lf || !lv)) w)
theorem askP : Ask 50 false := ⟨enters_of Try.func50 (by kernel_rfl) rfl, fun d w v n hn => by
  obtain ⟨lf, PA, np, pc, TA, nt, tc, KA, nk, kc, rfl⟩ := hn.val
  have HB := hd (alloc_below w (.cells #[.bool lf, .slice PA np pc, .slice TA nt tc, .slice KA nk kc] 26))
  have HF := hd (show (n.lf || !false) = true by simp)
  clear hn
  go_enter Try.func50, Try.ntmps50
  go_wp2
  go_ret
  exact ⟨ret_bool HF.out.symm, HB.out⟩⟩
theorem askL : Ask 52 true := ⟨enters_of Try.func52 (by kernel_rfl) rfl, fun d w v n hn => by
  obtain ⟨d', lf, ps, tx, ks, PA, pc, TA, tc, KA, kc, hd', rfl, rfl, _⟩ := hn.open_
  have HB := hd (alloc_below w (.cells #[.bool lf, .slice PA ps.length pc, .slice TA tx.length tc, .slice KA ks.length kc] 26))
  have HF := hd (show ((NT.mk lf ps tx ks).lf || !true) = lf by simp [NT.lf])
  clear hn
  go_enter Try.func52, Try.ntmps52
  go_wp2
  go_ret
  exact ⟨ret_bool HF.out.symm, HB.out⟩⟩
/-- What the walk leaves. -/
def Walked (B gq go gh gw : Nat) (fid : FuncId) (L : List (List Int)) (h : List Int) (w : World) (e : Ending) (w' : World) : Prop :=
  e = .returned (.tuple #[]) ∧ (∃ vo vh, St B gq go gh gw fid w' vo vh L h) ∧ Below B w w'

section
variable {P : Program} {ops : Array Oper} {Q : Exit → Act → World → Prop} {S : World → Prop} {z : Nat}
/-- Whatever order is picked from here on; S holds behind every operation but number z. -/
def wpAnyZ (P : Program) (ops : Array Oper) (Q : Exit → Act → World → Prop) (S : World → Prop) (z : Nat) : Nat → Array Bool → Act → World → Prop
  | 0, listed, a, w => Region.ready .any ops listed = [] ∧ Q .normal a w
  | n + 1, listed, a, w => (Region.ready .any ops listed = [] → Q .normal a w) ∧
      ∀ i ∈ Region.ready .any ops listed, wpOp P ops Q i (fun a' w' => (i ≠ z → S w') ∧ wpAnyZ P ops Q S z n (listed.setIfInBounds i true) a' w') a w
theorem any_of_Z : ∀ (n : Nat) (listed : Array Bool) (a : Act) (w : World), wpAnyZ P ops Q S z n listed a w → wpAny P .any ops Q n listed a w
  | 0, _, _, _, h => h
  | n + 1, _, _, _, h => ⟨h.1, fun i hi => wpOp_mono (fun a' w' h' => any_of_Z n _ a' w' h'.2) (h.2 i hi)⟩
/-- Operation z waits for operation i. -/
def waitsZ (ops : Array Oper) (z i : Nat) : Bool := match ops[z]? with
  | some o => o.after.toList.any fun e => Region.binds .any e && e.on == i
  | none => false
/-- What z waits for, and yields the same in every world that meets S, may be taken first. -/
theorem Z_first {i : Nat} {oi : Oper} {v : Value} (hi : ops[i]? = some oi) (hsel : Region.noSelect ops = true) (hz : waitsZ ops z i = true)
    (hQ : ∀ c a w, Q (.panic c) (a.put oi.dst v) w → Q (.panic c) a w) :
    ∀ (n : Nat) (listed : Array Bool) (a : Act) (w : World),
      (∀ j oj, ops[j]? = some oj → j ≠ i → listed.getD j true = false → (∀ e ∈ oj.after, Region.binds .any e = true → e.on ≠ i) → oi.apart ops oj = true) →
      i ∈ Region.ready .any ops listed → YieldsIf P ops S oi v a → S w →
      wpAnyZ P ops Q S z n (listed.setIfInBounds i true) (a.put oi.dst v) w → wpAnyZ P ops Q S z (n + 1) listed a w := by
  have sel := Region.noSelect_spec hsel
  intro n
  induction n with
  | zero =>
    intro listed a w _ hr hy hS H
    refine ⟨fun h => absurd hr (by rw [h]; simp), fun j hj => ?_⟩
    rcases Classical.em (j = i) with e | e
    · subst e; exact hy.wpOp hi hS ⟨fun _ => hS, H⟩
    · have := ready_mono hj e
      rw [H.1] at this; cases this
  | succ n ih =>
    intro listed a w hfree hr hy hS H
    refine ⟨fun h => absurd hr (by rw [h]; simp), fun j hj => ?_⟩
    rcases Classical.em (j = i) with e | e
    · subst e; exact hy.wpOp hi hS ⟨fun _ => hS, H⟩
    · obtain ⟨hjun, oj, hoj, hall⟩ := mem_ready.1 hj
      have hiun := (mem_ready.1 hr).1
      have hno : ∀ e ∈ oj.after, Region.binds .any e = true → e.on ≠ i := fun x hx hb heq => by
        have h1 := hall x hx hb
        rw [heq] at h1
        rcases Nat.lt_or_ge i listed.size with h' | h'
        · simp [h'] at hiun h1; rw [hiun] at h1; cases h1
        · simp [Array.getElem?_eq_none h'] at h1
      have hjz : j ≠ z := fun ez => by
        subst ez
        unfold waitsZ at hz
        rw [hoj] at hz
        obtain ⟨x, hx, hx2⟩ := List.any_eq_true.1 hz
        simp only [Bool.and_eq_true, beq_iff_eq] at hx2
        exact hno x (by simpa using hx) hx2.1 hx2.2
      have h2 := wpOp_putIf hoj (hfree j oj hoj e hjun hno) (fun cs b => sel i oi cs b hi) (fun cs b => sel j oj cs b hoj) hQ hy (H.2 j (ready_mono hj e))
      refine wpOp_mono (fun a' w' h3 => ⟨h3.2.1, ih (listed.setIfInBounds j true) a' w' (fun k ok hk hki hun hn => hfree k ok hk hki ?_ hn) (ready_mono hr (Ne.symm e)) h3.1 (h3.2.1 hjz) ?_⟩) h2
      · rcases Classical.em (j = k) with ek | ek
        · subst ek; exact hjun
        · rw [getD_set_ne true ek] at hun; exact hun
      · rw [Array.setIfInBounds_comm _ _ e]; exact h3.2.2
theorem Z_take {i : Nat} {oi : Oper} (v : Value) {n : Nat} {listed : Array Bool} {a : Act} {w : World} (hi : ops[i]? = some oi) (hs : Region.noSelect ops = true) (hz : waitsZ ops z i = true) (hf : Region.free .any ops listed i = true) (hr : (Region.ready .any ops listed).contains i = true)
    (hQ : ∀ c a w, Q (.panic c) (a.put oi.dst v) w → Q (.panic c) a w) (hw : Region.wanted oi (yielded ops a.tmps) = true) (hy : ∀ w, S w → (execOp a.eval oi).run P w = .ok (.value v) w) (hS : S w)
    (h : wpAnyZ P ops Q S z n (listed.setIfInBounds i true) (a.put oi.dst v) w) : wpAnyZ P ops Q S z (n + 1) listed a w :=
  Z_first hi hs hz hQ n listed a w (Region.free_spec hi hf) (by simpa using hr) (.inl ⟨hw, hy⟩) hS h
/-- Just one may come up. -/
theorem Z_one {i : Nat} {o : Oper} {n : Nat} {listed : Array Bool} {a : Act} {w : World} (hr : Region.ready .any ops listed = [i]) (hi : ops[i]? = some o)
    (h : ∀ K : Act → World → Prop, (∀ a' w', (i ≠ z → S w') → wpAnyZ P ops Q S z n (listed.setIfInBounds i true) a' w' → K a' w') → if Region.wanted o (yielded ops a.tmps) = true then Oper.wp P o a w K Q else False) : wpAnyZ P ops Q S z (n + 1) listed a w := by
  refine ⟨fun e => absurd (e.symm.trans hr) (by simp), fun j hj => ?_⟩
  rw [hr, List.mem_singleton] at hj
  subst hj
  have h1 := h (fun a' w' => (j ≠ z → S w') ∧ wpAnyZ P ops Q S z n (listed.setIfInBounds j true) a' w') (fun a' w' h1 h2 => ⟨h1, h2⟩)
  unfold wpOp
  simp only [hi]
  split
  · rename_i hw
    rw [if_pos hw] at h1
    exact .inl h1
  · rename_i hw
    rw [if_neg hw] at h1
    exact h1.elim
theorem Z_done {n : Nat} {listed : Array Bool} {a : Act} {w : World} (hr : Region.ready .any ops listed = []) (h : Q .normal a w) : wpAnyZ P ops Q S z n listed a w := by
  cases n with
  | zero => exact ⟨hr, h⟩
  | succ n => exact ⟨fun _ => h, by rw [hr]; simp⟩
theorem Z_start {id : Nat} {a : Act} {w : World} (hm : P.follows .mixedOrders = true) (h : wpAnyZ P ops Q S z ops.size (Array.replicate ops.size false) a w.drew) : (Code.region id ops true).wp P Q a w :=
  wp_region_any hm (any_of_Z _ _ _ _ h)
end

end Go.Proofs.Ytggapngibkeodaa
