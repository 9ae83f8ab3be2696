/- Slices in memory: what a slice's cells hold, carried over whatever leaves old blocks as they were; -/
import Derived.Test.YtmkciabefepelaaGreatJIPath
import Derived.Test.YtmkciabefepelaaGreatProg
import Derived.WalkKit
import Derived.WalkLawsBesides
import Derived.WalkSpells
import Derived.LoopTactic
import Derived.Outline
import Derived.Deep.Draws
import Derived.Deep.QuietTactic
import Derived.BigQuiet
import Derived.Below
import Derived.Laws.OwnMore
import Derived.Laws.MakeOwn
import Derived.Maps.AppendAt
import Derived.Deep.AppendLies
import Derived.RegionTactic
import Derived.OwnWalk
import Derived.WideShapes
import Derived.IntWalk
import Derived.Test.YtmkciabefepelaaGreatJPSame
import Derived.Test.YtmkciabefepelaaGreatJIAlike
import Derived.Laws.Strings
import Derived.Test.YtmkciabefepelaaGreatJOForm
import Derived.Test.YtmkciabefepelaaGreatJBFew
import Derived.Test.YtmkciabefepelaaGreatJQPlain
import Derived.Test.YtmkciabefepelaaGreatBInv
import Derived.Test.YtmkciabefepelaaGreatBFresh
import Derived.Test.YtmkciabefepelaaGreatJCAny
import Derived.Test.YtmkciabefepelaaGreatJXMove5
import Derived.Test.YtmkciabefepelaaGreatJKTold
import Derived.Test.YtmkciabefepelaaGreatJTCut
import Derived.Deep.RegionHeld3
import Derived.Laws.AppendOwnNone
import Derived.Test.YtmkciabefepelaaGreatJTPut
import Derived.Test.YtmkciabefepelaaGreatTChange
import Derived.Test.YtmkciabefepelaaGreatJTGet
import Derived.Test.YtmkciabefepelaaGreatJTTree
import Derived.Test.YtmkciabefepelaaGreatNCopy
import Derived.Test.YtmkciabefepelaaGreatJNRSame
import Derived.Test.YtmkciabefepelaaGreatJNEach
import Derived.Laws.EntriesVeiled
import Derived.Shelf.Abstract
import Derived.Laws.IdiomStrings
import Derived.Deep.DeepCutAuto
import Derived.Deep.CutBlock
import Derived.Deep.RegionLaw
import Derived.StillTailTactics
import Derived.ArgAppend
import Derived.Lib.SliceRun
import Derived.Test.YtmkciabefepelaaGreatXMove
import Derived.Test.YtmkciabefepelaaGreatJXCalls
import Derived.Lib.AppendZeros
import Derived.Deep.Cut
import Derived.BigRegion
import Derived.Deep.MidRow
import Derived.Laws.Tables
import Derived.Laws.ResultCell
import Derived.Maps.OwnOps
import Derived.OrdersHeld
import Derived.Test.YtmkciabefepelaaGreatJBWith
import Derived.Test.YtmkciabefepelaaGreatBEmpty
import Derived.Test.YtmkciabefepelaaGreatJUDo
import Derived.Test.YtmkciabefepelaaGreatJUApp
import Derived.Test.YtmkciabefepelaaGreatJUAhead
import Derived.Test.YtmkciabefepelaaGreatJUBase
import Derived.Test.YtmkciabefepelaaGreatUStay
import Derived.Test.YtmkciabefepelaaGreatJYMove2
import Derived.Great.BuildSlice
import Derived.Test.YtmkciabefepelaaGreatJUChg
import Derived.Test.YtmkciabefepelaaGreatUMean
import Derived.Test.YtmkciabefepelaaGreatJGCat
import Derived.Test.YtmkciabefepelaaGreatJQRow
import Derived.Maps.StringElems
import Derived.Shelf.GgSortFunc.InsertionK
import Derived.Shelf.SlLaysF0
import Derived.Lib.Bytealg
import Derived.Shelf.SlSortCmp.WholeK
import Derived.Sort.OwnSorted
import Derived.Laws.BitsLemmas
import Derived.Test.YtmkciabefepelaaGreatJUTxt
import Derived.Test.YtmkciabefepelaaGreatJUSplL
import Derived.Test.YtmkciabefepelaaGreatJUMerP
import Derived.Test.YtmkciabefepelaaGreatJNTopO
import Derived.Test.YtmkciabefepelaaGreatJUMerL
set_option maxRecDepth 4000
set_option maxHeartbeats 8000000
namespace Go.Proofs.YtmkciabefepelaaGreat
open Go.RowKit
open Go.WideShapes (add_plain)
section
variable {w w' : World} {B B' : Nat} {A : Option Addr} {xs : List Value}
end
section
variable {t : TypeId} {w w' : World} {b b' : Nat} {v : Value} {xs : List Value}
theorem zE1.below (h : zE1 t w b v xs) (hb : Below w.heap.size w w') : zE1 t w' b v xs := by
 obtain ⟨A, c, e, h1, h2, h3⟩ := h
 refine ⟨A, c, e, h1, h2, h3.1, ?_⟩
 rcases h3.2 with h4 | ⟨g, cap, cur, e2, hbg, hg, rest⟩
 ·exact .inl h4
 ·refine .inr ⟨g, cap, cur, e2, hbg, ?_, rest⟩
  rw [hb.block g (Array.getElem?_eq_some_iff.1 hg).1]
  exact hg
theorem zE1.open_ (h : zE1 t w b v xs) : ∃ (A : Option Addr) (c : Nat), v = .slice A xs.length c /\ xs.length <= c /\ c <= maxLen /\ VL w w.heap.size A xs := by
 obtain ⟨A, c, e, h1, h2, h3⟩ := h
 refine ⟨A, c, e, h1, h2, fun hn => ?_⟩
 have hl : 0 < xs.length := List.length_pos_iff.2 hn
 rcases h3.2 with ⟨_, h0⟩ | ⟨g, cap, cur, e2, hbg, hg, _⟩
 ·omega
 ·have e3 : A = some ⟨g, 0, none⟩ := by
   have := e.symm.trans e2
   injection this
  subst e3
  refine ⟨g, 0, rfl, (Array.getElem?_eq_some_iff.1 hg).1, fun k u hk => ?_⟩
  have := h3.cells (g := g) (by rw [e]; rfl) k u hk
  rwa [add_plain] at this
theorem zE1.open_at (h : zE1 t w b v xs) (n : Nat) (hn : xs.length = n) : ∃ A c, v = .slice A n c /\ n <= c /\ c <= maxLen /\ VL w w.heap.size A xs /\ zE1 t w b (.slice A n c) xs := by
 subst hn
 have h0 := h
 obtain ⟨A, c, rfl, h1, h2, h3⟩ := h.open_
 exact ⟨A, c, rfl, h1, h2, h3, h0⟩
end
theorem zYp.own {w w' : World} {l : List Int} {e : Ending} (h : zYp w l e w') (n : Nat) (hn : l.length = n) :
  ∃ A c, e = .returned (.slice A n c) /\ n <= c /\ VL w' w'.heap.size A (rv l) /\ zE1 21 w' w.heap.size (.slice A n c) (rv l) /\ Below w.heap.size w w' := by
 obtain ⟨v, he, ho, hb⟩ := h
 obtain ⟨A, c, rfl, h1, _, h2, h3⟩ := ho.open_at n (by rw [zCg]; exact hn)
 exact ⟨A, c, he, h1, h2, h3, hb⟩
end Go.Proofs.YtmkciabefepelaaGreat
namespace Go.Proofs.YtmkciabefepelaaGreat
open Go.RowKit
theorem jQ (a b : List NT) : textK (a ++ b) = textK a ++ textK b := by
 induction a with
 | nil => simp [textK]
 | cons x r ih => simp only [List.cons_append, textK, ih, List.append_assoc]
section
variable {σ : Type} (step : σ -> NT -> Bool × σ)
variable {step}
end
def zVp (l : List Int) (n : NT) : Bool × List Int := (true, l ++ n.tx)
mutual
theorem zLs : ∀ (n : NT) (l : List Int), zEg zVp l n = (true, l ++ zAy n)
 | .mk lf ps tx ks, l => by
  rw [zEg]
  simp only [zVp, NT.tx, if_true]
  rw [zNt ks]
  simp only [zAy, List.append_assoc]
theorem zNt : ∀ (ks : List NT) (l : List Int), walkK zVp l ks = (true, l ++ textK ks)
 | [], l => by simp [walkK, textK]
 | k :: r, l => by
  rw [walkK, zLs k l]
  simp only [if_true]
  rw [zNt r]
  simp only [textK, List.append_assoc]
end
theorem zHe {ks : List NT} {i : Nat} {k k' : NT} (h : ks[i]? = some k) (e : zAy k' = zAy k) : textK (ks.set i k') = textK ks := by
 obtain ⟨h1, h2⟩ := List.getElem?_eq_some_iff.1 h
 rw [List.set_eq_take_append_cons_drop, if_pos h1, jQ]
 have e2 : textK ks = textK (ks.take i) ++ textK (ks.drop i) := by rw [<- jQ, List.take_append_drop]
 rw [zCo h] at e2
 rw [e2]
 simp only [textK, e]
theorem zAs (n : NT) : zAy n = n.tx ++ textK n.ks := by cases n; simp only [zAy, NT.tx, NT.ks]
theorem zFi : ∀ (n : NT) (p : List Int) (m x : NT), kB n p = some x -> zAy m = zAy x -> zAy (putT n p m) = zAy n
 | n, [], m, x => fun h e => by injection h with h; rw [putT, h, e]
 | n, i :: r, m, x => by
  rw [zR]
  cases h : zBh n i with
  | none => intro h2; cases h2
  | some k =>
   intro h2 e
   simp only [putT, h]
   obtain ⟨k1, k2, k3⟩ := zA1 h
   rw [zAs (setK n i.toNat (putT k r m)), zAs n, zM5 (by omega), zHe k3 (zFi k r m x h2 e)]
   rfl
theorem zSi (ks : List NT) (i m : Nat) : textK ks = textK (ks.take i) ++ (textK ((ks.drop i).take m) ++ textK (ks.drop (i + m))) := by
 have e : ks = ks.take i ++ ((ks.drop i).take m ++ ks.drop (i + m)) := by
  conv => lhs; rw [<- List.take_append_drop i ks, <- List.take_append_drop m (ks.drop i), List.drop_drop]
 conv => lhs; rw [e]
 rw [jQ, jQ]
theorem zUa {x : NT} {i m : Nat} {o : List NT} (h : textK o = textK ((x.ks.drop i).take m)) : zAy (jS x i m o) = zAy x := by
 rw [zAs (jS x i m o), zAs x]
 show x.tx ++ textK (spl x.ks i m o) = _
 unfold spl
 rw [jQ, jQ, h, zSi x.ks i m, List.append_assoc]
theorem kCd {b k : NT} (hb : zAh b = 0) (hk : zAh k = 0) (hl : b.lf = k.lf) : zAy (zAo b k) = zAy b ++ zAy k := by
 rw [zAs (zAo b k), zAs b, zAs k]
 show (b.tx ++ k.tx) ++ textK (b.ks ++ k.ks) = _
 rw [jQ]
 cases h : b.lf
 ·rw [(kX hk).2 (hl ▸ h)]; simp
 ·rw [(kX hb).1 h]; simp [textK]
theorem zSj {k : NT} (hk : zAh k = 0) (i : Nat) (w : List Pr) : zAy (jN k i) ++ zAy (zA2 k i w) = zAy k := by
 unfold jN zA2
 by_cases h : k.lf = true
 ·rw [if_pos h, if_pos h, zAs k, (kX hk).1 h]
  simp [zAy, textK]
 ·rw [if_neg h, if_neg h, zAs k]
  simp only [zAy, List.nil_append]
  rw [List.append_assoc, <- jQ, List.take_append_drop]
theorem kGp {n a : NT} {o : OpP} (hm : ∀ u x, kB n u = some x -> x.ks.length < 9223372036854775807) (hn : zAh n = 0) (hk : o.k = 3 ∨ o.k = 4 ∨ o.k = 6) (h : doO n o = (a, 0)) : zAy a = zAy n := by
 rcases zC7 (by omega) (by omega) h with ⟨e, h⟩ | ⟨e, h⟩ | ⟨e, h⟩ | ⟨e, h⟩ | ⟨e, h⟩ | ⟨e, h⟩ | ⟨e, h⟩ | ⟨e, h⟩
 ·omega
 ·omega
 ·obtain ⟨u, i, x, b, k, hf⟩ := zC5 h
  have hx := zA6 n u x hn hf.at_
  rw [hf.eq]
  refine zFi n u _ x hf.at_ (zUa ?_)
  rw [zDi hf.b_ hf.k_]
  simp only [textK, List.append_nil]
  exact kCd (zAk hx hf.b_) (zAk hx hf.k_) hf.leaf
 ·obtain ⟨u, i, x, k, hf⟩ := zCc hm h
  have hx := zA6 n u x hn hf.at_
  rw [hf.eq]
  refine zFi n u _ x hf.at_ (zUa ?_)
  rw [zCk hf.kid]
  simp only [textK, List.append_nil]
  exact zSj (zAk hx hf.kid) _ _
 ·omega
 ·obtain ⟨k, hq, hg, hc, rfl⟩ := zC6 h
  exact zFi n o.q _ k hg (by rw [zAs (zEs k _), zAs k]; rfl)
 ·omega
 ·omega
end Go.Proofs.YtmkciabefepelaaGreat
namespace Go.Proofs.YtmkciabefepelaaGreat
open Go.RowKit
open Go.WideShapes (add_plain)
theorem zLt {w : World} {ty t : TypeId} {base e size n : Nat} {i : TypeInfo} {v : Value} {xs : List Value} {A : Option Addr} {c : Nat} (ht : Tryz.prog.underlying t = some (.slice e)) (hi : Tryz.prog.info? e = some i) (hown : w.ownsRow base e size v n xs) :
  (Builtin.append_ #[t, t] ty #[v, .slice A 0 c]).run Tryz.prog w = .ok v w := by
 rcases hown.2 with ⟨rfl, rfl⟩ | ⟨g, cap, cur, rfl, _, _, hnc, _⟩
 ·cases A <;> simp [Builtin.append_, run_underlying ht, sizeOf, typeInfo, hi, Builtin.lenOf, Builtin.firstCells, loadCells, loadCellsFrom]
 ·cases A <;> simp [Builtin.append_, run_underlying ht, sizeOf, typeInfo, hi, Builtin.lenOf, Builtin.firstCells, loadCells, loadCellsFrom, hnc, storeCells]
theorem zLu (W : World) {ops : Array Oper} {rest : List Oper} {o : Oper} {a : Act} {Q : Exit -> Act -> World -> Prop} (hgd : o.guard = none) (s x : Operand)
  (ho : o.op = .call { callee := .builtin .append, args := #[s, x], argTypes := #[23, 23] })
  (b : Nat) (v : Value) (k l : List Value) (hs : a.eval s = v) (hO : zE1 21 W b v k) (A : Option Addr) (n c B : Nat) (hx : a.eval x = .slice A n c) (hn : l.length = n) (hp : VL W B A l) (h1 : ∀ u ∈ l, u.oneCell' = true) (hlen : k.length + l.length <= 2200000) (hb : b <= W.heap.size)
  (hK : ∀ v' w', zE1 21 w' b v' (k ++ l) -> kBq b v W w' -> (v'.ownBlock = v.ownBlock ∨ ∃ j, v'.ownBlock = some j /\ W.heap.size <= j) -> wpList Tryz.prog ops Q rest (a.put o.dst v') w') :
  wpList Tryz.prog ops Q (o :: rest) a W := by
 subst hn
 obtain ⟨i0, z, hi, hz0, hz1, hz2, hz3⟩ := zLg.info
 rcases Nat.eq_zero_or_pos l.length with h0 | h0
 ·have hl : l = [] := List.eq_nil_of_length_eq_zero h0
  subst hl
  refine wpList_plain hgd fun K hK2 => ?_
  have hrun := zLt (w := W) (ty := o.type) (A := A) (c := c) zLg.under hi hO.own
  unfold Oper.wp
  simp [execOp, ho, resolve, invoke, builtin, hs, hx, hrun, Result.andThen]
  exact hK2 _ _ (hK v W (by rw [List.append_nil]; exact hO) (kBq.refl _ _ _) (.inl rfl))
 ·obtain ⟨b', o', rfl, _, hc⟩ := hp (by intro e; rw [e] at h0; simp at h0)
  refine wpList_plain hgd fun K hK2 => ?_
  refine wp_append_lies W s x 23 ho b 21 i0 z 1 4 zLg.under hi hz0 hz1 hz2 hz3 (by decide) v k.length k hs hO.own ⟨b', o', none⟩ l.length c l hx (by simp) (fun j u hj => by rw [add_plain]; exact hc j u hj) h1 h0
   (by unfold maxLen; omega) (by omega) hb W.heap.size rfl (fun g cap w' h1 h2 h3 _ => hK2 _ _ (hK _ w' (zE1.of_own (n := k.length + l.length) h1 (by simp)) ?_ ?_))
  ·exact ⟨h2.size, fun B w0 hB hBW hb0 => hb0.grown h2 hBW (fun j hj => Nat.le_trans hB (hO.lt hj).1), fun p hp hne => World.cell?_of_block (h2.block p.block hp hne)⟩
  ·rcases h3 with e | e
   ·exact .inl (by rw [e]; rfl)
   ·exact .inr ⟨g, rfl, by omega⟩
theorem One.grew {t : TypeId} {g N : Nat} {u v : Value} {w w' : World} (h : One t g u w) (hg : kBq N v w w') (hgN : g < N) : One t g u w' :=
 ((hg.below (g + 1) w hgN (lt_of_block h) (Below.refl _ _)).block g (Nat.lt_succ_self g)).trans h
theorem zE1.aside {t : TypeId} {w : World} {g N : Nat} {v x : Value} {xs : List Value} (h : zE1 t w N v xs) (hg : g < N) : zE1 t (w.setCell ⟨g, 0, none⟩ x) N v xs :=
 zE1.of_own (ownsRow_setCell_other h.own (by intro e; have := (h.lt e).1; simp at this; omega) x) rfl
theorem Eff.grew {g N : Nat} {O : Option Nat} {v v' : Value} {w w' : World} (hg : kBq N v w w') (hgN : g < N) (hgw : g < w.heap.size) (hO : v.ownBlock = O) (hl : v'.ownBlock = v.ownBlock ∨ ∃ j, v'.ownBlock = some j /\ w.heap.size <= j) : Eff g O v'.ownBlock w w' :=
 ⟨hg.below g w (by omega) (by omega) (Below.refl _ _), hg.size, fun p hp _ hn => hg.cell p hp (by rw [hO]; exact hn), by rw [<- hO]; exact hl⟩
def QX (g N : Nat) (l : List Int) (O : Option Nat) (w : World) : Prop := ∃ v, One 23 g v w /\ zE1 21 w N v (rv l) /\ v.ownBlock = O /\ g < N
theorem zE1.alloc {t : TypeId} {w : World} {b : Nat} {v : Value} {xs : List Value} (h : zE1 t w b v xs) (o : Obj) : zE1 t (w.alloc o) b v xs := h.below ((Below.refl _ _).alloc (Nat.le_refl _) o)
theorem zQg (g N : Nat) (l : List Int) (d : Nat) (w : World) (v : Value) (n : NT) (O : Option Nat) (hlen : l.length + n.tx.length <= 1100000) (hQ0 : QX g N l O w) (hN : N <= w.heap.size) (hn : zV d w g v n) :
  Calls Tryz.prog 77 #[v, .pointer (some ⟨g, 0, none⟩)] w (Did g (QX g N) O (zVp l n) w) := by
 obtain ⟨u, hQ, hu, hO, hgN⟩ := hQ0
 obtain ⟨d', lf, ps, tx, ks, PA, pc, TA, tc, KA, kc, hd', rfl, rfl, hp, ht, hf, hks⟩ := hn.open_
 obtain ⟨A, c, rfl, _, _, _, hu2⟩ := hu.open_at l.length (zCg l)
 obtain ⟨wb, hwb⟩ : ∃ wb, wb = w.alloc (.cells #[.bool lf, .slice PA ps.length pc, .slice TA tx.length tc, .slice KA ks.length kc] 26) := ⟨_, rfl⟩
 have hQb : One 23 g (.slice A l.length c) wb := hwb ▸ hQ.alloc _
 have hub : zE1 21 wb N (.slice A l.length c) (rv l) := hwb ▸ hu2.alloc _
 have hgl := lt_of_block hQ
 have hbb : Below w.heap.size w wb := hwb ▸ (Below.refl _ _).alloc (Nat.le_refl _) _
 have htb : VL wb g TA (rv tx) := ht.below (hbb.mono (by omega))
 have x0 := cell_of_one hQb
 have HQ := hd hQb
 have HU := hd hub
 have HT := hd htb
 have HE := hd (show Eff g O O w wb from hwb ▸ (Eff.refl g O w).alloc (by omega) _)
 have hsb := hd (show wb.heap.size = w.heap.size + 1 by rw [hwb]; simp)
 have hl2 : l.length + tx.length <= 1100000 := hlen
 have HO := hd hO
 subst hwb
 clear hQ hQb hu hu2 hub hks hp ht hf hn hd' hbb htb hlen hO
 go_enter Tryz.func77, Tryz.ntmps77
 go_wp2_with (at_builtin; refine zLu _ rfl (.tmp 4) (.tmp 6) rfl N (.slice A l.length c) (rv l) (rv tx) rfl HU.out TA tx.length tc g rfl (zCg tx) HT.out (zNz tx) (by rw [zCg, zCg]; omega) (by rw [hsb.out]; omega) ?_; intro v2 w2 hu2 hg2 hlie; have HQ2 := hd (HQ.out.grew hg2 hgN); have HLIE := hd hlie; have HG2 := hd hg2; clear hlie hg2; obtain ⟨A2, c2, rfl, _, _, _, hu3⟩ := hu2.open_at (l.length + tx.length) (by simp [rv]); have HU3 := hd hu3; clear hu2 hu3; have x1 := cell_of_one HQ2.out; have x2 := free_of_one HQ2.out; have hgl2 := lt_of_block HQ2.out)
 go_ret
 exact ⟨rfl, _, ⟨_, HQ2.out.set _, (by rw [<- zQp] at HU3; exact HU3.out.aside hgN), rfl, hgN⟩, (HE.out.trans (Eff.grew HG2.out hgN (by rw [hsb.out]; omega) HO.out HLIE.out)).setCell _⟩
theorem zYa (g N : Nat) (_hgN : g < N) : zY1 77 g N zVp (QX g N) (fun l n => l.length + (zAy n).length <= 1100000) (fun l ks => l.length + (textK ks).length <= 1100000) :=
 ⟨enters_of Tryz.func77 (by kernel_rfl) rfl, fun _ _ _ h j hj => (by
   obtain ⟨v, _, hv, hO, _⟩ := h
   exact hv.lt (hO.trans hj)), fun _ _ _ o _ h => (by
   obtain ⟨v, h1, hv, hO, hg⟩ := h
   exact ⟨v, h1.alloc o, hv.alloc o, hO, hg⟩), fun l lf ps tx ks h _ => (by
   simp only [zVp, NT.tx, List.length_append]
   simp only [zAy, List.length_append] at h
   omega), fun l m r h => (by
   simp only [textK, List.length_append] at h
   refine ⟨by omega, fun _ => ?_⟩
   rw [zLs]
   simp only [List.length_append]
   omega), fun d w v n l O hp hQ hN hn => zQg g N l d w v n O (by
    cases n with
    | mk lf ps tx ks =>
     simp only [zAy, List.length_append] at hp
     simp only [NT.tx]
     omega) hQ hN hn⟩
theorem kCe (d : Nat) (w : World) (v : Value) (n : NT) (hlen : (zAy n).length <= 1100000) (hn : zV d w w.heap.size v n) : Calls Tryz.prog 33 #[v] w (zYp w (zAy n)) := by
 have hn0 := hn
 obtain ⟨lf, PA, np, pc, TA, nt, tc, KA, nk, kc, rfl⟩ := hn.val
 obtain ⟨wb, hwb⟩ : ∃ wb, wb = w.alloc (.cells #[.bool lf, .slice PA np pc, .slice TA nt tc, .slice KA nk kc] 26) := ⟨_, rfl⟩
 have hsb : wb.heap.size = w.heap.size + 1 := by rw [hwb]; simp
 have hb1 : Below w.heap.size w wb := hwb ▸ (Below.refl _ _).alloc (Nat.le_refl _) _
 obtain ⟨wc, hwc⟩ : ∃ wc, wc = wb.alloc (.cells #[.slice none 0 0] 23) := ⟨_, rfl⟩
 have hb2 : Below w.heap.size w wc := hwc ▸ hb1.alloc (by omega) _
 have hsc : wc.heap.size = w.heap.size + 1 + 1 := by rw [hwc]; simp; omega
 have hone : One 23 (w.heap.size + 1) (.slice none 0 0) wc := by rw [hwc, <- hsb]; exact One.new _ _ _
 have HC := hd (zOz (Q := QX (w.heap.size + 1)) (s := []) (n := n) (fun N hN => zYa (w.heap.size + 1) N (by omega)) (by omega) (by simpa using hlen)
  (fun N wa hN hb => ⟨.slice none 0 0, (hb.block _ (lt_of_block hone)).trans hone, zE1.nil _ _, rfl, by omega⟩) ((hn0.below hb2).more (by omega)))
 rw [zLs, List.nil_append] at HC
 have HB := hd hb2
 have HSC := hd hsc
 clear hn hn0 hb1 hb2 hone hlen hsb hsc
 subst hwc hwb
 go_enter Tryz.func33, Tryz.ntmps33
 go_wp2_with (first | (refine HC.out.mono ?_; rintro e w' ⟨rfl, O', ⟨u, hq, hu, _, _⟩, ha⟩; have HU := hd hu; have x0 := cell_of_one hq; obtain ⟨A2, c2, rfl, _, _, _, _⟩ := hu.open_at (zAy n).length (zCg _)))
 go_ret
 exact ⟨_, rfl, HU.out.weaken (by rw [HSC.out]; omega), HB.out.trans (ha.mono (by omega))⟩
end Go.Proofs.YtmkciabefepelaaGreat
namespace Go.Proofs.YtmkciabefepelaaGreat
open Go.RowKit
theorem zE5 {ty : TypeId} {ops : Array Oper} {rest : List Oper} {op : Oper} {a : Act} {w : World} {Q : Exit -> Act -> World -> Prop} {g : Nat} {c : OC} (h : jR w g c) {j : Nat} {v : Value}
  (x : Operand) (ho : op.op = .load ty x) (hw : Region.wanted op (yielded ops a.tmps) = true) (hx : a.eval x = .pointer (some ⟨g, j, none⟩)) (hv : c.row[j]? = some v) {d : TypeDesc} (hu : Tryz.prog.underlying ty = some d) (hd : d.isRow = false) (hk : wpList Tryz.prog ops Q rest (a.put op.dst v) w) : wpList Tryz.prog ops Q (op :: rest) a w := by
 have hc := h.cell j v hv
 have hl := zD3 hu hd hc
 refine wpList_step fun K hK => ?_
 rw [if_pos hw]
 unfold Oper.wp execOp
 simp only [ho, hx, Instr.loadAt, Instr.sureAddr, Sem.run_bind, Sem.run_pure, Result.andThen_ok, hl]
 exact hK _ _ hk
theorem zYb {w : World} {B n c : Nat} {A : Option Addr} {l : List Int} (h : VL w B A (rv l)) (hn : l.length = n) : (convert 23 9 (.slice A n c)).run Tryz.prog w = .ok (.string (runesBytes l)) w := by
 subst hn
 cases l with
 | nil =>
  cases A with
  | none => exact run_convert_runes_nil w 23 9 21 0 c Tryz.underlying23 Tryz.underlying21 Tryz.underlying9
  | some A => exact run_convert_runes w 23 9 21 A 0 c [] (by simp) Tryz.underlying23 Tryz.underlying21 Tryz.underlying9 (fun j hj => by simp at hj)
 | cons x r =>
  obtain ⟨b, o, rfl, _, hc⟩ := h (by simp [rv])
  have := run_convert_runes w 23 9 21 ⟨b, o, none⟩ (x :: r).length c (x :: r) (Nat.le_refl _) Tryz.underlying23 Tryz.underlying21 Tryz.underlying9 (fun j hj => by
   rw [Go.WideShapes.add_plain]
   refine hc j _ ?_
   simp only [rv, List.getElem?_map, List.getD, List.getElem?_eq_getElem hj, Option.map_some, Option.getD_some])
  rw [List.take_length] at this
  exact this
theorem zH4 {o : Oper} {a : Act} {w : World} {K : Act -> World -> Prop} {Q : Exit -> Act -> World -> Prop} {x : Operand} {B n c : Nat} {A : Option Addr} {l : List Int} (ho : o.op = .convert 23 9 x) (hx : a.eval x = .slice A n c) (h : VL w B A (rv l)) (hn : l.length = n) (hk : K (a.put o.dst (.string (runesBytes l))) w) : Oper.wp Tryz.prog o a w K Q := by
 have hl := zYb (c := c) h hn
 unfold Oper.wp execOp
 simp only [ho, hx, Sem.run_bind, Sem.run_pure, Result.andThen_ok, hl]
 exact hk
theorem zOn {w : World} {c : NC} {n : NT} {T : List Int} (h : kS w c n) (hT : zAy n = T) (hl : T.length <= 1100000) : Calls Tryz.prog 33 #[.agg c.row] w (zYp w T) := by
 obtain ⟨d, h⟩ := h
 subst hT
 exact kCe d w _ n hl h
set_option maxRecDepth 100000 in
theorem kGq {w : World} {c : NC} {s : SC} {o : OC} {n : NT} {sl : Sl} {a : OpP} (hn : kS w c n) (hs : zB1 w s sl) (ho : OkA w o a) (hf : zB8 n sl a = false) : Calls Tryz.prog 9 #[.agg c.row, .agg s.row, .agg o.row] w (jW w) := by
 have HN := hd hn
 have HSL := hd hs
 have HO := hd ho
 have HF := hd hf
 clear hn hs ho hf
 obtain ⟨W0, hW, hst⟩ := kN w c s o
 have HW := hd hW
 have HS := hd hst
 clear hW hst
 go_enter Tryz.func9, Tryz.ntmps9
 go_upto_region 1 with fail
 rw [HW.out]
 go_wp2_with (first
  | ((with_reducible refine zC (ty := 26) (x := .tmp 3) ?_); refine zB zD HS.out.v3 rfl _ rfl rfl rfl ?_)
  | ((with_reducible refine zC (ty := 33) (x := .tmp 4) ?_); refine zB zP HS.out.v4 rfl _ rfl rfl rfl ?_)
  | ((with_reducible refine zC (ty := 35) (x := .tmp 5) ?_); refine zG HS.out.v5 _ rfl rfl rfl ?_)
  | (go_at_call 10; refine Calls.mono (jG _) ?_; rintro e w1 ⟨rfl, b9⟩; have HS := hd (HS.out.call b9); clear b9)
  | (go_at_call 11; refine Calls.mono (zAq (HN.out.later HS.out.below) (HSL.out.later HS.out.below) (HO.out.later HS.out.below) HF.out) ?_; rintro e w2 ⟨rfl, b9⟩; have HS := hd (HS.out.call b9); clear b9))
 go_ret
 exact ⟨rfl, HS.out.below⟩
theorem zF1 {P : Prop} (h : P := by
 clear hk
 have HN := hd hn
 have HSL := hd hs
 have HO := hd ho
 have HF := hd hf
 clear hn hs ho hf
 obtain ⟨W0, hW, hst⟩ := kN w c s o
 have HW := hd hW
 have HS := hd hst
 clear hW hst
 go_enter Tryz.func9, Tryz.ntmps9
 go_upto_region 1 with fail
 rw [HW.out]
 go_wp2_with (first
  | ((with_reducible refine zC (ty := 26) (x := .tmp 3) ?_); refine zB zD HS.out.v3 rfl _ rfl rfl rfl ?_)
  | ((with_reducible refine zC (ty := 33) (x := .tmp 4) ?_); refine zB zP HS.out.v4 rfl _ rfl rfl rfl ?_)
  | ((with_reducible refine zC (ty := 35) (x := .tmp 5) ?_); refine zG HS.out.v5 _ rfl rfl rfl ?_)
  | ((with_reducible refine kH (ty := 3) ?_); refine zE5 HS.out.v5 (j := 0) (v := .int .i64 o.k) _ rfl (by kernel_rfl) rfl rfl Tryz.underlying3 rfl ?_)
  | (go_at_call 10; refine Calls.mono (jG _) ?_; rintro e w1 ⟨rfl, b9⟩; have HS := hd (HS.out.call b9); clear b9)
  | (go_at_call 11; refine Calls.mono (zAq (HN.out.later HS.out.below) (HSL.out.later HS.out.below) (HO.out.later HS.out.below) HF.out) ?_; rintro e w2 ⟨rfl, b9⟩; have HS := hd (HS.out.call b9); clear b9))
 go_ret
 exact ⟨rfl, HS.out.below⟩) : P := h
set_option maxRecDepth 100000 in
theorem kCf {w : World} {c : NC} {s : SC} {o : OC} {n : NT} {sl : Sl} {a : OpP} (hn : kS w c n) (hs : zB1 w s sl) (ho : OkA w o a) (hf : zB8 n sl a = true) (hk : o.k = 1) : Calls Tryz.prog 9 #[.agg c.row, .agg s.row, .agg o.row] w (jW w) := by
 have k1 : (o.k == 1) = true := by simp [hk]
 have k2 : (o.k == 2) = false := by simp [hk]
 have k5 : (o.k == 5) = false := by simp [hk]
 have k7 : (o.k == 7) = false := by simp [hk]
 have k8 : (o.k == 8) = false := by simp [hk]
 exact zF1
set_option maxRecDepth 100000 in
theorem kCg {w : World} {c : NC} {s : SC} {o : OC} {n : NT} {sl : Sl} {a : OpP} (hn : kS w c n) (hs : zB1 w s sl) (ho : OkA w o a) (hf : zB8 n sl a = true) (hk : o.k = 2) : Calls Tryz.prog 9 #[.agg c.row, .agg s.row, .agg o.row] w (jW w) := by
 have k1 : (o.k == 1) = false := by simp [hk]
 have k2 : (o.k == 2) = true := by simp [hk]
 have k5 : (o.k == 5) = false := by simp [hk]
 have k7 : (o.k == 7) = false := by simp [hk]
 have k8 : (o.k == 8) = false := by simp [hk]
 exact zF1
set_option maxRecDepth 100000 in
theorem kCh {w : World} {c : NC} {s : SC} {o : OC} {n : NT} {sl : Sl} {a : OpP} (hn : kS w c n) (hs : zB1 w s sl) (ho : OkA w o a) (hf : zB8 n sl a = true) (hk : o.k = 5) : Calls Tryz.prog 9 #[.agg c.row, .agg s.row, .agg o.row] w (jW w) := by
 have k1 : (o.k == 1) = false := by simp [hk]
 have k2 : (o.k == 2) = false := by simp [hk]
 have k5 : (o.k == 5) = true := by simp [hk]
 have k7 : (o.k == 7) = false := by simp [hk]
 have k8 : (o.k == 8) = false := by simp [hk]
 exact zF1
set_option maxRecDepth 100000 in
theorem kCi {w : World} {c : NC} {s : SC} {o : OC} {n : NT} {sl : Sl} {a : OpP} (hn : kS w c n) (hs : zB1 w s sl) (ho : OkA w o a) (hf : zB8 n sl a = true) (hk : o.k = 7) : Calls Tryz.prog 9 #[.agg c.row, .agg s.row, .agg o.row] w (jW w) := by
 have k1 : (o.k == 1) = false := by simp [hk]
 have k2 : (o.k == 2) = false := by simp [hk]
 have k5 : (o.k == 5) = false := by simp [hk]
 have k7 : (o.k == 7) = true := by simp [hk]
 have k8 : (o.k == 8) = false := by simp [hk]
 exact zF1
set_option maxRecDepth 100000 in
theorem kCj {w : World} {c : NC} {s : SC} {o : OC} {n : NT} {sl : Sl} {a : OpP} (hn : kS w c n) (hs : zB1 w s sl) (ho : OkA w o a) (hf : zB8 n sl a = true) (hk : o.k = 8) : Calls Tryz.prog 9 #[.agg c.row, .agg s.row, .agg o.row] w (jW w) := by
 have k1 : (o.k == 1) = false := by simp [hk]
 have k2 : (o.k == 2) = false := by simp [hk]
 have k5 : (o.k == 5) = false := by simp [hk]
 have k7 : (o.k == 7) = false := by simp [hk]
 have k8 : (o.k == 8) = true := by simp [hk]
 exact zF1
set_option maxRecDepth 100000 in
theorem kGr {w : World} {c : NC} {s : SC} {o : OC} {n : NT} {sl : Sl} {a : OpP} {er : Int} (hn : kS w c n) (hs : zB1 w s sl) (ho : OkA w o a) (hf : zB8 n sl a = true) (hap : jL n sl a = ((zeroT, zeroS), er)) (hne : (er != 0) = true) (k1 : (o.k == 1) = false) (k2 : (o.k == 2) = false) (k5 : (o.k == 5) = false) (k7 : (o.k == 7) = false) (k8 : (o.k == 8) = false) : Calls Tryz.prog 9 #[.agg c.row, .agg s.row, .agg o.row] w (jW w) := by
 have HAP := hd hap
 clear hap
 have HN := hd hn
 have HSL := hd hs
 have HO := hd ho
 have HF := hd hf
 have HRD := hd (jE hf hn ho).1
 clear hn hs ho hf
 obtain ⟨W0, hW, hst⟩ := kN w c s o
 have HW := hd hW
 have HS := hd hst
 clear hW hst
 go_enter Tryz.func9, Tryz.ntmps9
 go_upto_region 1 with fail
 rw [HW.out]
 go_upto_region 6 with (first
  | ((with_reducible refine zC (ty := 26) (x := .tmp 3) ?_); refine zB zD HS.out.v3 rfl _ rfl rfl rfl ?_)
  | ((with_reducible refine zC (ty := 33) (x := .tmp 4) ?_); refine zB zP HS.out.v4 rfl _ rfl rfl rfl ?_)
  | ((with_reducible refine zC (ty := 35) (x := .tmp 5) ?_); refine zG HS.out.v5 _ rfl rfl rfl ?_)
  | ((with_reducible refine kH (ty := 3) ?_); refine zE5 HS.out.v5 (j := 0) (v := .int .i64 o.k) _ rfl (by kernel_rfl) rfl rfl Tryz.underlying3 rfl ?_)
  | (go_at_call 10; refine Calls.mono (jG _) ?_; rintro e w1 ⟨rfl, b9⟩; have HS := hd (HS.out.call b9); clear b9)
  | (go_at_call 11; refine Calls.mono (zAq (HN.out.later HS.out.below) (HSL.out.later HS.out.below) (HO.out.later HS.out.below) HF.out) ?_; rintro e w2 ⟨rfl, b9⟩; have HS := hd (HS.out.call b9); clear b9)
  | (go_at_call 13; refine Calls.mono (zA4 (HN.out.later HS.out.below) (HSL.out.later HS.out.below) (HO.out.later HS.out.below) HRD.out HAP.out) ?_; rintro e w3 ⟨ca, ct, rfl, hna, hsa, b9⟩; have HNA := hd hna; have HSA := hd hsa; have HS := hd (HS.out.call b9); clear b9 hna hsa; dsimp only)
  | ((with_reducible refine zF (ty := 26) (x := .tmp 7) ?_); refine zA zD (r := ca.row) (zDj w3) rfl rfl ca.one _ _ rfl rfl rfl rfl rfl ?_; intro W7 hv7 ho7; have HV7 := hd hv7; have HT := hd (zDk ho7); clear hv7 ho7)
  | ((with_reducible refine zF (ty := 33) (x := .tmp 8) ?_); refine zA zP (r := ct.row) HT.out.2 rfl rfl ct.one _ _ rfl rfl rfl rfl rfl ?_; intro W8 hv8 ho8; have HV8 := hd hv8; have HB8 := hd (zDl HT.out.1 ho8); have HV7 := hd (HV7.out.off ho8 (by omega)); clear hv8 ho8))
 have HS5 := hd (show St5 w c s o w3.heap.size (w3.heap.size + 1) ca ct W8 from ⟨HS.out.call HB8.out, HV7.out, HV8.out⟩)
 have HNA2 := hd (HNA.out.later HB8.out)
 have HSA2 := hd (HSA.out.later HB8.out)
 clear HS HNA HSA HV7 HV8 HT HB8
 obtain ⟨g7, hg7⟩ : ∃ g, w3.heap.size = g := ⟨_, rfl⟩
 rw [hg7] at HS5
 try rw [hg7]
 clear hg7
 have HZN := hd (fun W9 : World => (show kS W9 (NC.mk false none 0 0 none 0 0 none 0 0) zeroT from ⟨1, zEh _ _⟩))
 have HSM := hd (zD8 zeroT)
 go_wp2_with (first
  | ((with_reducible refine zC (ty := 26) (x := .tmp 7) ?_); refine zB zD HS5.out.v7 rfl _ rfl rfl rfl ?_)
  | (go_at_call 15; refine Calls.mono (zHo (c' := (NC.mk false none 0 0 none 0 0 none 0 0)) HNA2.out (HZN.out _) HSM.out) ?_; rintro e w9 ⟨rfl, b9⟩; have HS5 := hd (HS5.out.call b9); clear b9))
 go_ret
 exact ⟨rfl, HS5.out.st.below⟩
set_option maxRecDepth 100000 in
theorem kCk {w : World} {c : NC} {s : SC} {o : OC} {n x : NT} {sl tl : Sl} {a : OpP} {T : List Int} {z : Nat} (hn : kS w c n) (hs : zB1 w s sl) (ho : OkA w o a) (hf : zB8 n sl a = true) (hap : jL n sl a = ((x, tl), 0)) (k1 : (o.k == 1) = false) (k2 : (o.k == 2) = false) (k5 : (o.k == 5) = false) (k7 : (o.k == 7) = false) (k8 : (o.k == 8) = false) (hta : zAy x = T) (htn : zAy n = T) (htz : T.length = z) (htl : T.length <= 1100000) : Calls Tryz.prog 9 #[.agg c.row, .agg s.row, .agg o.row] w (jW w) := by
 have HAP := hd hap
 have HTA := hd hta
 have HTN := hd htn
 have HTZ := hd htz
 have HTL := hd htl
 clear hap hta htn htz htl
 have HN := hd hn
 have HSL := hd hs
 have HO := hd ho
 have HF := hd hf
 have HRD := hd (jE hf hn ho).1
 clear hn hs ho hf
 obtain ⟨W0, hW, hst⟩ := kN w c s o
 have HW := hd hW
 have HS := hd hst
 clear hW hst
 go_enter Tryz.func9, Tryz.ntmps9
 go_upto_region 1 with fail
 rw [HW.out]
 go_upto_region 6 with (first
  | ((with_reducible refine zC (ty := 26) (x := .tmp 3) ?_); refine zB zD HS.out.v3 rfl _ rfl rfl rfl ?_)
  | ((with_reducible refine zC (ty := 33) (x := .tmp 4) ?_); refine zB zP HS.out.v4 rfl _ rfl rfl rfl ?_)
  | ((with_reducible refine zC (ty := 35) (x := .tmp 5) ?_); refine zG HS.out.v5 _ rfl rfl rfl ?_)
  | ((with_reducible refine kH (ty := 3) ?_); refine zE5 HS.out.v5 (j := 0) (v := .int .i64 o.k) _ rfl (by kernel_rfl) rfl rfl Tryz.underlying3 rfl ?_)
  | (go_at_call 10; refine Calls.mono (jG _) ?_; rintro e w1 ⟨rfl, b9⟩; have HS := hd (HS.out.call b9); clear b9)
  | (go_at_call 11; refine Calls.mono (zAq (HN.out.later HS.out.below) (HSL.out.later HS.out.below) (HO.out.later HS.out.below) HF.out) ?_; rintro e w2 ⟨rfl, b9⟩; have HS := hd (HS.out.call b9); clear b9)
  | (go_at_call 13; refine Calls.mono (zA4 (HN.out.later HS.out.below) (HSL.out.later HS.out.below) (HO.out.later HS.out.below) HRD.out HAP.out) ?_; rintro e w3 ⟨ca, ct, rfl, hna, hsa, b9⟩; have HNA := hd hna; have HSA := hd hsa; have HS := hd (HS.out.call b9); clear b9 hna hsa; dsimp only)
  | ((with_reducible refine zF (ty := 26) (x := .tmp 7) ?_); refine zA zD (r := ca.row) (zDj w3) rfl rfl ca.one _ _ rfl rfl rfl rfl rfl ?_; intro W7 hv7 ho7; have HV7 := hd hv7; have HT := hd (zDk ho7); clear hv7 ho7)
  | ((with_reducible refine zF (ty := 33) (x := .tmp 8) ?_); refine zA zP (r := ct.row) HT.out.2 rfl rfl ct.one _ _ rfl rfl rfl rfl rfl ?_; intro W8 hv8 ho8; have HV8 := hd hv8; have HB8 := hd (zDl HT.out.1 ho8); have HV7 := hd (HV7.out.off ho8 (by omega)); clear hv8 ho8))
 have HS5 := hd (show St5 w c s o w3.heap.size (w3.heap.size + 1) ca ct W8 from ⟨HS.out.call HB8.out, HV7.out, HV8.out⟩)
 have HNA2 := hd (HNA.out.later HB8.out)
 have HSA2 := hd (HSA.out.later HB8.out)
 clear HS HNA HSA HV7 HV8 HT HB8
 obtain ⟨g7, hg7⟩ : ∃ g, w3.heap.size = g := ⟨_, rfl⟩
 rw [hg7] at HS5
 try rw [hg7]
 clear hg7
 go_upto_region 8 with fail
 refine jO (S := fun W' => Below W8.heap.size W8 W') (z := fun _ => false) (by kernel_rfl) ?_
 have HSS := hd (show Below W8.heap.size W8 W8.drew from (Below.refl _ _).drew)
 refine zH (i := 0) (n := 7) (.agg ca.row) rfl (by kernel_rfl) (by kernel_rfl) (by kernel_rfl) (by kernel_rfl) (fun _ _ _ h => h) (by kernel_rfl) (fun W9 hW9 => ?_) HSS.out ?_
 ·exact zS zD (HS5.out.call hW9).v7 rfl _ rfl (by kernel_rfl)
 simp only [Act.put, List.setIfInBounds_toArray]
 refine zH (i := 3) (n := 6) (.agg c.row) rfl (by kernel_rfl) (by kernel_rfl) (by kernel_rfl) (by kernel_rfl) (fun _ _ _ h => h) (by kernel_rfl) (fun W9 hW9 => ?_) HSS.out ?_
 ·exact zS zD (HS5.out.call hW9).st.v3 rfl _ rfl (by kernel_rfl)
 simp only [Act.put]
 refine kJ (i := 1) (n := 5) (by kernel_rfl) rfl (fun K hK => ?_)
 rw [if_pos (by kernel_rfl)]
 go_simp
 go_at_call 33
 refine Calls.mono (zOn (HNA2.out.later HSS.out) HTA.out HTL.out) ?_
 rintro e w9 h9
 obtain ⟨Aa, ca, rfl, _, hv9, _, b9⟩ := h9.own _ HTZ.out
 have HSS := hd (zI HSS.out b9)
 have HVa := hd hv9
 clear hv9 h9 b9
 refine hK _ _ (fun _ => HSS.out) ?_
 clear hK K
 refine kB9 (i := 2) (j := 4) (n := 4) (by kernel_rfl) rfl rfl (fun K hK => ?_) (fun K hK => ?_)
 ·rw [if_pos (by kernel_rfl)]
  refine zH4 rfl rfl HVa.out HTZ.out ?_
  simp only [Act.put]
  refine hK _ _ (fun _ => HSS.out) ?_
  clear hK K
  refine kJ (i := 4) (n := 3) (by kernel_rfl) rfl (fun K hK => ?_)
  rw [if_pos (by kernel_rfl)]
  go_simp
  go_at_call 33
  refine Calls.mono (zOn (HN.out.later ((HS5.out.call HSS.out).st.below)) HTN.out HTL.out) ?_
  rintro e w9 h9
  obtain ⟨An, cn, rfl, _, hv9, _, b9⟩ := h9.own _ HTZ.out
  have HSS := hd (zI HSS.out b9)
  have HVa := hd (HVa.out.later b9)
  have HVn := hd hv9
  clear hv9 h9 b9
  refine hK _ _ (fun _ => HSS.out) ?_
  clear hK K
  refine kJ (i := 5) (n := 2) (by kernel_rfl) rfl (fun K hK => ?_)
  rw [if_pos (by kernel_rfl)]
  refine zH4 rfl rfl HVn.out HTZ.out ?_
  simp only [Act.put]
  refine hK _ _ (fun _ => HSS.out) ?_
  clear hK K
  refine zH (i := 6) (n := 1) (.bool true) rfl (by kernel_rfl) (by kernel_rfl) (by kernel_rfl) (by kernel_rfl) (fun _ _ _ h => h) (by kernel_rfl) (fun W9 hW9 => ?_) HSS.out ?_
  ·go_simp
  simp only [Act.put]
  refine kJ (i := 7) (n := 0) (by kernel_rfl) rfl (fun K hK => ?_)
  rw [if_pos (by kernel_rfl)]
  go_simp
  refine hK _ _ (fun _ => HSS.out) (zAl (by kernel_rfl) ?_)
  go_wp2_with fail
  go_ret
  exact ⟨rfl, (HS5.out.call HSS.out).st.below⟩
 ·rw [if_pos (by kernel_rfl)]
  go_simp
  go_at_call 33
  refine Calls.mono (zOn (HN.out.later ((HS5.out.call HSS.out).st.below)) HTN.out HTL.out) ?_
  rintro e w9 h9
  obtain ⟨An, cn, rfl, _, hv9, _, b9⟩ := h9.own _ HTZ.out
  have HSS := hd (zI HSS.out b9)
  have HVa := hd (HVa.out.later b9)
  have HVn := hd hv9
  clear hv9 h9 b9
  refine hK _ _ (fun _ => HSS.out) ?_
  clear hK K
  refine kB9 (i := 2) (j := 5) (n := 3) (by kernel_rfl) rfl rfl (fun K hK => ?_) (fun K hK => ?_)
  ·rw [if_pos (by kernel_rfl)]
   refine zH4 rfl rfl HVa.out HTZ.out ?_
   simp only [Act.put]
   refine hK _ _ (fun _ => HSS.out) ?_
   clear hK K
   refine kJ (i := 5) (n := 2) (by kernel_rfl) rfl (fun K hK => ?_)
   rw [if_pos (by kernel_rfl)]
   refine zH4 rfl rfl HVn.out HTZ.out ?_
   simp only [Act.put]
   refine hK _ _ (fun _ => HSS.out) ?_
   clear hK K
   refine zH (i := 6) (n := 1) (.bool true) rfl (by kernel_rfl) (by kernel_rfl) (by kernel_rfl) (by kernel_rfl) (fun _ _ _ h => h) (by kernel_rfl) (fun W9 hW9 => ?_) HSS.out ?_
   ·go_simp
   simp only [Act.put]
   refine kJ (i := 7) (n := 0) (by kernel_rfl) rfl (fun K hK => ?_)
   rw [if_pos (by kernel_rfl)]
   go_simp
   refine hK _ _ (fun _ => HSS.out) (zAl (by kernel_rfl) ?_)
   go_wp2_with fail
   go_ret
   exact ⟨rfl, (HS5.out.call HSS.out).st.below⟩
  ·rw [if_pos (by kernel_rfl)]
   refine zH4 rfl rfl HVn.out HTZ.out ?_
   simp only [Act.put]
   refine hK _ _ (fun _ => HSS.out) ?_
   clear hK K
   refine kJ (i := 2) (n := 2) (by kernel_rfl) rfl (fun K hK => ?_)
   rw [if_pos (by kernel_rfl)]
   refine zH4 rfl rfl HVa.out HTZ.out ?_
   simp only [Act.put]
   refine hK _ _ (fun _ => HSS.out) ?_
   clear hK K
   refine zH (i := 6) (n := 1) (.bool true) rfl (by kernel_rfl) (by kernel_rfl) (by kernel_rfl) (by kernel_rfl) (fun _ _ _ h => h) (by kernel_rfl) (fun W9 hW9 => ?_) HSS.out ?_
   ·go_simp
   simp only [Act.put]
   refine kJ (i := 7) (n := 0) (by kernel_rfl) rfl (fun K hK => ?_)
   rw [if_pos (by kernel_rfl)]
   go_simp
   refine hK _ _ (fun _ => HSS.out) (zAl (by kernel_rfl) ?_)
   go_wp2_with fail
   go_ret
   exact ⟨rfl, (HS5.out.call HSS.out).st.below⟩
theorem zYc {w : World} {c : NC} {s : SC} {o : OC} {n : NT} {sl : Sl} {a : OpP} (hn : kS w c n) (hs : zB1 w s sl) (ho : OkA w o a) : Calls Tryz.prog 9 #[.agg c.row, .agg s.row, .agg o.row] w (jW w) := by
 cases hf : zB8 n sl a
 ·exact kGq hn hs ho hf
 have hkk := ho.hk
 by_cases q1 : o.k = 1
 ·exact kCf hn hs ho hf q1
 by_cases q2 : o.k = 2
 ·exact kCg hn hs ho hf q2
 by_cases q5 : o.k = 5
 ·exact kCh hn hs ho hf q5
 by_cases q7 : o.k = 7
 ·exact kCi hn hs ho hf q7
 by_cases q8 : o.k = 8
 ·exact kCj hn hs ho hf q8
 obtain ⟨hr, e1, e2⟩ := jE hf hn ho
 obtain ⟨⟨⟨x, tl⟩, er⟩, hap⟩ : ∃ r, jL n sl a = r := ⟨_, rfl⟩
 by_cases h0 : er = 0
 ·subst h0
  have hm := zPs hap hr e1 e2
  obtain ⟨g1, g2, g3, g4, g5⟩ := zH8 hap
  have hc := zC1 g1
  have h1 := e1 hc
  have h2 := zUy n
  have ht : zAy x = zAy n := by
   rcases g5 with ⟨e9, _, _, hx⟩ | ⟨k1, k8, hd, _, _⟩
   ·rw [show x = n from congrArg Prod.fst hx]
   ·exact kGp hm.len hc (by omega) hd
  exact kCk hn hs ho hf hap (by simpa using q1) (by simpa using q2) (by simpa using q5) (by simpa using q7) (by simpa using q8) ht rfl rfl (by omega)
 ·have hz := zJk (n := n) (s := sl) (o := a) (by rw [hap]; exact h0)
  rw [hap] at hz
  dsimp only at hz
  rw [hz] at hap
  exact kGr hn hs ho hf hap (by simpa using h0) (by simpa using q1) (by simpa using q2) (by simpa using q5) (by simpa using q7) (by simpa using q8)
end Go.Proofs.YtmkciabefepelaaGreat
