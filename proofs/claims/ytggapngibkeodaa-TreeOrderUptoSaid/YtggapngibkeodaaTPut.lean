/- Put: the closure, and the call. -/
import Derived.Test.YtggapngibkeodaaTChange
namespace Go.Proofs.Ytggapngibkeodaa
open Go.RowKit

theorem NewN.of_newO {g : Nat} {r : NT × Int} {w w' : World} {e : Ending} (h : NewO g r none w e w') : NewN r w e w' := by
  obtain ⟨v, d, h1, h2, h3, h4⟩ := h
  exact ⟨v, d, h1, h2, h3.drop h4⟩
/-- A node in a variable: block b holds it, its tree lies below g. -/
def VarAt (b g d : Nat) (n : NT) (w : World) : Prop := ∃ lf PA np pc TA nt tc KA nk kc, w.heap[b]? = some (.cells #[.bool lf, .slice PA np pc, .slice TA nt tc, .slice KA nk kc] 26 (0, 0)) ∧ NodeAt d w g (.agg #[.bool lf, .slice PA np pc, .slice TA nt tc, .slice KA nk kc]) n
theorem VarAt.later {b g d : Nat} {n : NT} {w w' : World} (h : VarAt b g d n w) (hg : g ≤ w.heap.size) (hb : Below w.heap.size w w') : VarAt b g d n w' := by
  obtain ⟨lf, PA, np, pc, TA, nt, tc, KA, nk, kc, h1, h2⟩ := h
  exact ⟨lf, PA, np, pc, TA, nt, tc, KA, nk, kc, keepBlk h1 hb, h2.below (hb.mono hg)⟩

set_option maxRecDepth 100000 in
set_option maxHeartbeats 4000000 in
theorem putSelf_any (mb g dm : Nat) (m : NT) (d : Nat) (w : World) (v : Value) (n : NT) (hn : NodeAt d w g v n) (hg : g < w.heap.size) (hC : VarAt mb g dm m w) :
    Calls Try.prog 40 #[v, .pointer (some ⟨mb, 0, none⟩)] w (NewO g (putF m n) none w) := by
  obtain ⟨lf, PA, np, pc, TA, nt, tc, KA, nk, kc, rfl⟩ := hn.val
  obtain ⟨lf1, PA1, np1, pc1, TA1, nt1, tc1, KA1, nk1, kc1, hm1, hm2⟩ := hC
  obtain ⟨wb, hwb⟩ : ∃ wb, wb = (w.alloc (.cells #[.bool lf, .slice PA np pc, .slice TA nt tc, .slice KA nk kc] 26)).alloc (.cells #[.bool false, .slice none 0 0, .slice none 0 0, .slice none 0 0] 26) := ⟨_, rfl⟩
  have hb0 : Below w.heap.size w wb := hwb ▸ below_mono2 (Below.refl _ _) (Nat.le_refl _)
  have hsb : wb.heap.size = w.heap.size + 2 := by rw [hwb]; simp
  have htb : wb.heap[w.heap.size + 1]? = some (.cells #[.bool false, .slice none 0 0, .slice none 0 0, .slice none 0 0] 26 (0, 0)) := hwb ▸ (two_boxes w _ _ _ _ _ _ _ _ _ _).2
  obtain ⟨y0, y1, y2, y3, _, _, _, _⟩ := blkCells (keepBlk hm1 hb0)
  have HCP := hd (copy_any dm wb _ m ((hm2.below (hb0.mono (by omega))).more (by omega)))
  have HB := hd hb0
  have HS := hd hsb
  have HTB := hd htb
  have hmb := lt_of_block hm1
  clear hn hm1 hm2 hb0 hsb htb
  go_enter Try.func40, Try.ntmps40
  subst hwb
  go_wp2_with (first | (go_at_call 38; refine HCP.out.mono ?_; intro e w1 h1; obtain ⟨v1, rfl, ht1, hb1⟩ := h1; obtain ⟨lf4, PA4, np4, pc4, TA4, nt4, tc4, KA4, nk4, kc4, rfl⟩ := (ht1.at_ (B := w1.heap.size) (fun b hb => hb.2)).val; have HR1 := hd (keepBlk HTB.out hb1); obtain ⟨r0, r1, r2, r3, r4, r5, r6, r7⟩ := blkCells HR1.out; have HT1 := hd ht1; have HB1 := hd hb1; have hz1 := hb1.size; rw [HS.out] at hz1; clear ht1 hb1))
  have h7 := set4_block (a := .bool lf4) (b := .slice PA4 np4 pc4) (c := .slice TA4 nt4 tc4) (d := .slice KA4 nk4 kc4) HR1.out
  obtain ⟨t0, t1, t2, t3, _, _, _, _⟩ := blkCells h7
  have hS := HS.out
  have hW : Below w.heap.size w w1 := HB.out.trans (HB1.out.mono (by omega))
  refine bodyPost_ret (v := .tuple #[.agg #[.bool lf4, .slice PA4 np4 pc4, .slice TA4 nt4 tc4, .slice KA4 nk4 kc4], .int .i64 0]) (by simp [results, Try.results40, go_sem, t0, t1, t2, t3]) rfl (newO_ret (r := putF m n) rfl (HT1.out.block_keep (fun b h1 h2 => by rw [set4_size]; omega) (fun b h1 h2 => set4_other (by omega))) ((Off.of_below hW).set4 (.inl (by omega))) ?_)
  exact (set4_other (by omega)).trans (hW.block g hg)

theorem putMake (mb g dm : Nat) (m : NT) : Remake1 40 (.pointer (some ⟨mb, 0, none⟩)) g (putF m) (fun _ => none) (fun w => VarAt mb g dm m w ∧ g ≤ w.heap.size) (fun _ => True) :=
  ⟨enters_of Try.func40 (by kernel_rfl) rfl, fun w w' h hb => ⟨h.1.later h.2 hb, Nat.le_trans h.2 hb.size⟩, fun d w v n hn hg hC _ => putSelf_any mb g dm m d w v n hn hg hC.1⟩
theorem bind_none {α β : Type} (o : Option α) : o.bind (fun _ => (none : Option β)) = none := by cases o <;> rfl

set_option maxRecDepth 100000 in
set_option maxHeartbeats 4000000 in
theorem tput_any (d dm : Nat) (w : World) (v u : Value) (n m : NT) (A : Option Addr) (p : List Int) (lp c : Nat) (hlp : p.length = lp) (hl : lp ≤ 1000000) (hc : lp ≤ c) (hn : NodeAt d w w.heap.size v n) (hm : NodeAt dm w w.heap.size u m) (hp : IL w w.heap.size A p) :
    Calls Try.prog 14 #[v, .slice A lp c, u] w (NewN (putE n p m) w) := by
  obtain ⟨lf, PA, np, pc, TA, nt, tc, KA, nk, kc, rfl⟩ := hn.val
  obtain ⟨lf1, PA1, np1, pc1, TA1, nt1, tc1, KA1, nk1, kc1, rfl⟩ := hm.val
  obtain ⟨wb, hwb⟩ : ∃ wb, wb = ((w.alloc (.cells #[.bool lf, .slice PA np pc, .slice TA nt tc, .slice KA nk kc] 26)).alloc (.cells #[.bool lf1, .slice PA1 np1 pc1, .slice TA1 nt1 tc1, .slice KA1 nk1 kc1] 26)).alloc (.cells #[.bool false, .slice none 0 0, .slice none 0 0, .slice none 0 0] 26) := ⟨_, rfl⟩
  have hb0 : Below w.heap.size w wb := hwb ▸ (below_mono2 (Below.refl _ _) (Nat.le_refl _)).alloc (by simp; omega) _
  have hsb : wb.heap.size = w.heap.size + 3 := by rw [hwb]; simp
  have hmb : wb.heap[w.heap.size + 1]? = some (.cells #[.bool lf1, .slice PA1 np1 pc1, .slice TA1 nt1 tc1, .slice KA1 nk1 kc1] 26 (0, 0)) := by
    rw [hwb, Below.heap_alloc _ _ _ (by simp)]; exact (two_boxes w _ _ _ _ _ _ _ _ _ _).2
  have hrb : wb.heap[w.heap.size + 2]? = some (.cells #[.bool false, .slice none 0 0, .slice none 0 0, .slice none 0 0] 26 (0, 0)) := by
    rw [hwb]
    have e : ∀ (A B : Obj), w.heap.size + 2 = ((w.alloc A).alloc B).heap.size := fun A B => by simp
    rw [e]; exact heap_alloc_new _ _
  have HC := hd (change1_any (putMake (w.heap.size + 1) w.heap.size dm m) p d wb _ n A lp c hlp hl hc (by omega) ⟨⟨_, _, _, _, _, _, _, _, _, _, hmb, hm.below hb0⟩, by omega⟩ (hn.below hb0) ((hp.below hb0).more (by omega)) (il_apart hp (Nat.le_refl _)) (fun _ _ => trivial))
  rw [bind_none] at HC
  have HB := hd hb0
  have HS := hd hsb
  have HRB := hd hrb
  obtain ⟨FR, hFR⟩ : ∃ FR, FR = chgT (putF m) n p := ⟨_, rfl⟩
  rw [← hFR] at HC
  have HF := hd (show putE n p m = FR from hFR.symm)
  obtain ⟨F1, F2⟩ := FR
  clear hn hm hp hb0 hsb hmb hrb hFR hlp
  go_enter Try.func14, Try.ntmps14
  subst hwb
  go_wp2_with (first | (go_at_call 39; refine HC.out.mono ?_; intro e w1 h1; obtain ⟨v1, d1, rfl, ht1, hb1⟩ := NewN.of_newO h1; obtain ⟨lf4, PA4, np4, pc4, TA4, nt4, tc4, KA4, nk4, kc4, rfl⟩ := (ht1.at_ (B := w1.heap.size) (fun b hb => hb.2)).val; have HR1 := hd (keepBlk HRB.out hb1); obtain ⟨r0, r1, r2, r3, r4, r5, r6, r7⟩ := blkCells HR1.out; have HT1 := hd ht1; have HB1 := hd hb1; have hz1 := hb1.size; rw [HS.out] at hz1; clear ht1 hb1 h1))
  have h7 := set4_block (a := .bool lf4) (b := .slice PA4 np4 pc4) (c := .slice TA4 nt4 tc4) (d := .slice KA4 nk4 kc4) HR1.out
  obtain ⟨t0, t1, t2, t3, _, _, _, _⟩ := blkCells h7
  have hS := HS.out
  have hW : Below w.heap.size w w1 := HB.out.trans (HB1.out.mono (by omega))
  refine bodyPost_ret (v := .tuple #[.agg #[.bool lf4, .slice PA4 np4 pc4, .slice TA4 nt4 tc4, .slice KA4 nk4 kc4], .int .i64 F2]) (by simp [results, Try.results14, go_sem, t0, t1, t2, t3]) rfl (newN_ret HF.out (HT1.out.block_keep (fun b h1 h2 => by rw [set4_size]; omega) (fun b h1 h2 => set4_other (by omega))) (Below.set4 hW (by omega)))

end Go.Proofs.Ytggapngibkeodaa
