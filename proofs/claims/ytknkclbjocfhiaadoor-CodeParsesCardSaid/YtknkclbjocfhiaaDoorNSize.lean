/- Size: a visit that counts in a captured variable; the document's Size, that calls itself. -/
import Derived.Test.YtknkclbjocfhiaaDoorNEachs
import Derived.Shelf.Abstract
namespace Go.Proofs.YtknkclbjocfhiaaDoor
open Go.RowKit

/-- Block g is a variable that holds u. -/
def One (t : TypeId) (g : Nat) (u : Value) (w : World) : Prop := w.heap[g]? = some (.cells #[u] t (0, 0))
set_option maxRecDepth 4000 in
theorem One.alloc {t : TypeId} {g : Nat} {u : Value} {w : World} (h : One t g u w) (o : Obj) : One t g u (w.alloc o) := (Below.heap_alloc w o g (lt_of_block h)).trans h
set_option maxRecDepth 4000 in
theorem One.new (t : TypeId) (u : Value) (w : World) : One t w.heap.size u (w.alloc (.cells #[u] t (0, 0))) := by
  show (w.heap.push _)[w.heap.size]? = _
  simp
set_option maxRecDepth 4000 in
theorem One.set {t : TypeId} {g : Nat} {u : Value} {w : World} (h : One t g u w) (x : Value) : One t g x (w.setCell ⟨g, 0, none⟩ x) := one_setCell h
set_option maxRecDepth 4000 in
theorem Eff.setCell {g : Nat} {O O' : Option Nat} {w w' : World} (h : Eff g O O' w w') (x : Value) : Eff g O O' w (w'.setCell ⟨g, 0, none⟩ x) :=
  ⟨h.below.setCell (Nat.le_refl _) x, by have := h.size; simp; omega, fun p hp hg hO => by
    rw [World.cell?_setCell_other _ _ _ _ (by intro e; exact hg (by rw [← e]))]; exact h.cell p hp hg hO, h.own⟩

set_option maxRecDepth 4000 in
theorem wrap_in (a : Int) : -9223372036854775808 ≤ wrap64 a ∧ wrap64 a ≤ 9223372036854775807 := by unfold wrap64; omega
/-- The counter's state. -/
def QS (g : Nat) (z : Int) (O : Option Nat) (w : World) : Prop := O = none ∧ (-9223372036854775808 ≤ z ∧ z ≤ 9223372036854775807) ∧ One 3 g (.int .i64 z) w

set_option maxRecDepth 4000 in
set_option maxHeartbeats 1000000 in
theorem countSelf_any (g : Nat) (z : Int) (d : Nat) (w : World) (v : Value) (n : NT) (O : Option Nat) (hQ0 : QS g z O w) (hn : NodeAt d w g v n) :
    Calls Tryd.prog 59 #[v, .pointer (some ⟨g, 0, none⟩)] w (Did g (QS g) O (stepS z n) w) := by
  obtain ⟨rfl, ⟨hz1, hz2⟩, hQ⟩ := hQ0
  obtain ⟨d', lf, ps, tx, ks, PA, pc, TA, tc, KA, kc, hd', rfl, rfl, hp, ht, hf, hks⟩ := hn.open_
  have hlt := lt_of_block hQ
  have h1 := cell_of_one (One.alloc hQ (.cells #[.bool lf, .slice PA ps.length pc, .slice TA tx.length tc, .slice KA ks.length kc] 26))
  have h2 := free_of_one (One.alloc hQ (.cells #[.bool lf, .slice PA ps.length pc, .slice TA tx.length tc, .slice KA ks.length kc] 26))
  have HQ := hd hQ
  have HE := hd (Eff.refl g none w)
  have hl := hf.2.2.1
  clear hks hp ht hf hn hQ hd'
  go_enter Tryd.func59, Tryd.ntmps59
  go_wp2
  go_ret
  exact ⟨rfl, none, ⟨rfl, wrap_in _, (HQ.out.set _).alloc _⟩, (HE.out.setCell _).alloc (by simp; omega) _⟩

set_option maxRecDepth 4000 in
theorem countVisit (g N : Nat) : Visit 59 g N stepS (QS g) (fun _ _ => True) (fun _ _ => True) :=
  ⟨enters_of Tryd.func59 (by kernel_rfl) rfl, fun _ _ _ h j hj => (by rw [h.1] at hj; cases hj), fun _ _ _ o _ h => ⟨h.1, h.2.1, h.2.2.alloc o⟩, fun _ _ _ _ _ _ _ => trivial, fun _ _ _ _ => ⟨trivial, fun _ => trivial⟩, fun d w v n s O _ hQ _ hn => countSelf_any g s d w v n O hQ hn⟩

set_option maxRecDepth 4000 in
set_option maxHeartbeats 1000000 in
theorem size_any (d : Nat) (w : World) (v : Value) (n : NT) (hn : NodeAt d w w.heap.size v n) : Calls Tryd.prog 35 #[v] w (Still (.int .i64 (wrap64 (sizeT n))) w) := by
  have hn0 := hn
  obtain ⟨d', lf, ps, tx, ks, PA, pc, TA, tc, KA, kc, hd', rfl, rfl, hp, ht, hf, hks⟩ := hn.open_
  obtain ⟨wb, hwb⟩ : ∃ wb, wb = w.alloc (.cells #[.bool lf, .slice PA ps.length pc, .slice TA tx.length tc, .slice KA ks.length kc] 26) := ⟨_, rfl⟩
  have hsb : wb.heap.size = w.heap.size + 1 := by rw [hwb]; simp
  have hb1 : Below w.heap.size w wb := hwb ▸ (Below.refl _ _).alloc (Nat.le_refl _) _
  obtain ⟨wc, hwc⟩ : ∃ wc, wc = wb.alloc (.cells #[.int .i64 0] 3) := ⟨_, rfl⟩
  have hb2 : Below w.heap.size w wc := hwc ▸ hb1.alloc (by omega) _
  have hsc : wc.heap.size = w.heap.size + 1 + 1 := by rw [hwc]; simp; omega
  have hQ : QS (w.heap.size + 1) 0 none wc := ⟨rfl, by omega, by rw [hwc, ← hsb]; exact One.new _ _ _⟩
  have HC := hd (each_any (Q := fun _ => QS (w.heap.size + 1)) (fun N _ => countVisit (w.heap.size + 1) N) (by omega) trivial (fun _ _ _ hb => ⟨hQ.1, hQ.2.1, (hb.block _ (lt_of_block hQ.2.2)).trans hQ.2.2⟩) ((hn0.below hb2).more (by omega)))
  have e := walk_size (.mk lf ps tx ks) 0
  rw [wrap_id 0 (by omega) (by omega), Int.zero_add] at e
  rw [e] at HC
  have HB := hd hb2
  clear hn hn0 hp ht hf hks hd' e hQ hb1 hb2
  subst hwc hwb
  go_enter Tryd.func35, Tryd.ntmps35
  go_wp2_with (first | (refine HC.out.mono ?_; rintro e w' ⟨rfl, O', ⟨_, _, hq⟩, ha⟩; have x0 := cell_of_one hq))
  go_ret
  exact ⟨rfl, HB.out.trans (ha.mono (by omega))⟩

set_option maxRecDepth 4000 in
theorem size_start (ks : List NT) {n : Nat} (h : n ≤ 9223372036854775806) : (1 + (n : Int)) = wrap64 (1 + n + sizeK (ks.take 0)) := by
  have e : sizeK (ks.take 0) = 0 := by simp [sizeK]
  rw [e, wrap_id] <;> omega

set_option maxRecDepth 4000 in
set_option maxHeartbeats 1000000 in
theorem rsize_any : ∀ (d : Nat) (w : World) (v : Value) (n : NT), NodeAt d w w.heap.size v n → Calls Tryd.prog 48 #[v] w (Still (.int .i64 (wrap64 (sizeT n))) w) := by
  intro d
  induction d with
  | zero => intro w v n h; exact h.elim
  | succ d ih =>
    intro w v n hn
    obtain ⟨d', lf, ps, tx, ks, PA, pc, TA, tc, KA, kc, hd', rfl, rfl, hp, ht, hf, hks⟩ := hn.open_
    obtain rfl : d = d' := by omega
    have HB := hd (show Below w.heap.size w (w.alloc (.cells #[.bool lf, .slice PA ps.length pc, .slice TA tx.length tc, .slice KA ks.length kc] 26)) from (Below.refl _ _).alloc (Nat.le_refl _) _)
    have HKS := hd hks
    have hl := hf.2.2.1
    have hl3 := hf.2.2.2.1
    clear hn hp ht hf hks hd'
    go_enter Tryd.func48, Tryd.ntmps48
    go_wp2
    go_loopw [3, 13] (fun z i wr => ∃ (k : Nat) (y : Int), k ≤ ks.length ∧ z = .int .i64 y ∧ i = .int .i64 k ∧ Below w.heap.size w wr ∧ Hid (y = wrap64 (1 + tx.length + sizeK (ks.take k)))) (fun _ i _ => ks.length - (intOf i).toNat)
    case atStart => exact ⟨0, _, Nat.zero_le _, rfl, rfl, HB.out, hd (size_start ks (by omega))⟩
    case round =>
      obtain ⟨k, y, hk, rfl, rfl, hb, HY⟩ := hrel
      by_cases hlt : k < ks.length
      · obtain ⟨m, b, o, lf', PA', np', pc', TA', nt', tc', KA', nk', kc', hm, rfl, hbg, hnm, c0, c1, c2, c3⟩ := (HKS.out.below hb).at_ hlt
        have hsz := hb.size
        obtain ⟨wk, hwk⟩ : ∃ wk, wk = wr.alloc (.cells #[.bool lf', .slice PA' np' pc', .slice TA' nt' tc', .slice KA' nk' kc'] 26) := ⟨_, rfl⟩
        have hbk : Below w.heap.size w wk := hwk ▸ hb.alloc (by omega) _
        have hbk2 : Below wr.heap.size wr wk := hwk ▸ (Below.refl _ _).alloc (Nat.le_refl _) _
        have HC := hd (ih wk _ m ((((hnm.more hsz).below hbk2)).more hbk2.size))
        have HK := hd hbk
        have HZ := hd (sizeK_take hm)
        have hyb := wrap_in (1 + tx.length + sizeK (ks.take k))
        rw [← HY.out] at hyb
        obtain ⟨hy1, hy2⟩ := hyb
        obtain ⟨x, hx⟩ : ∃ x, x = wrap64 (sizeT m) := ⟨_, rfl⟩
        have hxb := wrap_in (sizeT m)
        rw [← hx] at HC hxb
        obtain ⟨hx1, hx2⟩ := hxb
        have HX := hd hx
        subst hwk
        clear hm hnm hbk hbk2 hx HKS
        go_wp2_with (first | (refine HC.out.mono ?_; rintro e w' ⟨rfl, hb'⟩))
        go_roundw
        case rel => exact ⟨k + 1, _, by omega, rfl, by go_num, HK.out.trans (hb'.mono HK.out.size), by show wrap64 _ = _; rw [HZ.out, HY.out, HX.out, wrap_add, wrap_add']; congr 1; omega⟩
        case measure => simp [intOf]; omega
      · have HF := hd (show y = wrap64 (sizeT (.mk lf ps tx ks)) by rw [HY.out, List.take_of_length_le (by omega)]; simp only [sizeT]; congr 1)
        clear HY
        go_wp2
        go_ret
        exact ⟨ret_int HF.out, hb⟩

end Go.Proofs.YtknkclbjocfhiaaDoor
