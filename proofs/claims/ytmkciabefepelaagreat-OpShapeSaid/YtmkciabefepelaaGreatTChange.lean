/- change: a closure is handed down to the node at a path; -/
import Derived.Test.YtmkciabefepelaaGreatJTGet
import Derived.Shelf.Abstract
import Derived.StillTailTactics
set_option maxRecDepth 100000
set_option maxHeartbeats 8000000
namespace Go.Proofs.YtmkciabefepelaaGreat
open Go.RowKit
open Go.WideShapes (add_plain)
theorem IL.tail {w : World} {B : Nat} {A : Option Addr} {i : Int} {r : List Int} (h : IL w B A (i :: r)) (c : Nat) (hc : r.length + 1 <= c) : IL w B (if c = 1 then A else A.map (·.add (1 * 1))) r := fun hn => by
 have h0 : 0 < r.length := List.length_pos_iff.2 hn
 obtain ⟨b, o, rfl, hb, hcell⟩ := h (by simp)
 rw [if_neg (by omega)]
 refine ⟨b, o + 1, by simp [add_plain], hb, fun k hk => ?_⟩
 have := hcell (k + 1) (by simp; omega)
 rw [show o + 1 + k = o + (k + 1) by omega, this]
 rfl
theorem zSd (A : Option Addr) (k c : Nat) (hc : k + 1 <= c) : ∃ D : Option Addr, (∀ (w : World) (B : Nat) (i : Int) (r : List Int), IL w B A (i :: r) -> r.length = k -> IL w B D r) /\ (∀ g, (∀ a, A = some a -> a.block ≠ g) -> ∀ a, D = some a -> a.block ≠ g) /\
  (∀ W : World, (Instr.slice 27 (.slice A (k + 1) c) (some (.int .i64 1)) none none).run Tryz.prog W = .ok (.slice D k (c - 1)) W) := by
 refine ⟨if c = 1 then A else A.map (·.add (1 * 1)), fun w B i r h hx => h.tail c (by omega), fun g h a ha => ?_, fun W => ?_⟩
 ·cases A with
  | none => split at ha <;> cases ha
  | some a0 =>
   have h0 := h a0 rfl
   split at ha
   ·injection ha with ha; rw [<- ha]; exact h0
   ·simp only [Option.map_some, Option.some.injEq] at ha
    rw [<- ha]; exact h0
 have he : Tryz.prog.elem 27 = 3 := by kernel_rfl
 have hs : ∀ W, (sizeOf 3).run Tryz.prog W = .ok 1 W := fun _ => by kernel_rfl
 rw [run_slice_l W 27 A (k + 1) c (by rw [he]; exact Tryz.underlying27) .i64 _ (by omega) (by omega), he, hs]
 simp [Result.andThen, sliced]
theorem zVg {w : World} {B g : Nat} {A : Option Addr} {p : List Int} (h : IL w B A p) (hg : B <= g) : p ≠ [] -> ∀ a, A = some a -> a.block ≠ g := fun hn a ha => by
 obtain ⟨b, o, e, hb, _⟩ := h hn
 rw [ha] at e
 injection e with e
 subst e
 show b ≠ g
 omega
def zJ6 (g : Nat) : Option NT -> World -> World -> Prop
 | none, w, w' => w'.heap[g]? = w.heap[g]?
 | some t, w, w' => ∃ u0 u1 u2 u3 d, w'.heap[g]? = some (.cells #[u0, u1, u2, u3] 26 (0, 0)) /\ zAx (fun b => w.heap.size <= b /\ b < w'.heap.size) d w' (.agg #[u0, u1, u2, u3]) t
theorem zJ6.move {g : Nat} {s : Option NT} {w0 w w' w'' : World} (h : zJ6 g s w w') (hs : w0.heap.size <= w.heap.size) (hs' : w'.heap.size <= w''.heap.size) (h0 : w.heap[g]? = w0.heap[g]?) (hg : w''.heap[g]? = w'.heap[g]?) (hb : ∀ b, w.heap.size <= b -> b < w'.heap.size -> w''.heap[b]? = w'.heap[b]?) : zJ6 g s w0 w'' := by
 cases s with
 | none => exact hg.trans (Eq.trans h h0)
 | some t =>
  obtain ⟨u0, u1, u2, u3, d, h1, h2⟩ := h
  exact ⟨u0, u1, u2, u3, d, hg.trans h1, h2.keep (fun b hb => by omega) (fun p hp => ⟨World.cell?_of_block (hb _ hp.1 hp.2), World.frozen?_of_block (hb _ hp.1 hp.2)⟩)⟩
def kEz (g : Nat) (r : NT × Int) (s : Option NT) (w : World) (e : Ending) (w' : World) : Prop :=
 ∃ v d, e = .returned (.tuple #[v, .int .i64 r.2]) /\ zAx (fun b => w.heap.size <= b /\ b < w'.heap.size) d w' v r.1 /\ Off g w w' /\ zJ6 g s w w'
theorem zB0 {g : Nat} {r : NT × Int} {s : Option NT} {n : NT} {e : Int} {w w' : World} {v : Value} {d : Nat} (h : r = (n, e)) (ht : zAx (fun b => w.heap.size <= b /\ b < w'.heap.size) d w' v n) (ho : Off g w w') (hl : zJ6 g s w w') : kEz g r s w (.returned (.tuple #[v, .int .i64 e])) w' := by
 subst h; exact ⟨v, d, rfl, ht, ho, hl⟩
theorem zAx.block_keep {lo hi : Nat} {w w' : World} {d : Nat} {v : Value} {n : NT} {Q : Nat -> Prop} (h : zAx (fun b => lo <= b /\ b < hi) d w v n) (hQ : ∀ b, lo <= b -> b < hi -> Q b) (hb : ∀ b, lo <= b -> b < hi -> w'.heap[b]? = w.heap[b]?) : zAx Q d w' v n :=
 h.keep (fun b hb => hQ b hb.1 hb.2) (fun _ hp => ⟨World.cell?_of_block (hb _ hp.1 hp.2), World.frozen?_of_block (hb _ hp.1 hp.2)⟩)
theorem zT {w : World} {g k : Nat} {a b c d : Value} (h : k ≠ g) : ((((w.setCell ⟨g, 0, none⟩ a).setCell ⟨g, 1, none⟩ b).setCell ⟨g, 2, none⟩ c).setCell ⟨g, 3, none⟩ d).heap[k]? = w.heap[k]? := by
 iterate 4 rw [Below.heap_setCell _ _ _ _ (by simpa using h)]
theorem jK {w : World} {g : Nat} {a b c d : Value} : ((((w.setCell ⟨g, 0, none⟩ a).setCell ⟨g, 1, none⟩ b).setCell ⟨g, 2, none⟩ c).setCell ⟨g, 3, none⟩ d).heap.size = w.heap.size := by simp
theorem Off.set4 {g k : Nat} {w0 w : World} {a b c d : Value} (h : Off g w0 w) (hk : w0.heap.size <= k ∨ k = g) : Off g w0 ((((w.setCell ⟨k, 0, none⟩ a).setCell ⟨k, 1, none⟩ b).setCell ⟨k, 2, none⟩ c).setCell ⟨k, 3, none⟩ d) :=
 ⟨h.os, h.tape, h.output, by rw [jK]; exact h.size, fun j hj hg => by rw [zT (by omega)]; exact h.block j hj hg⟩
theorem Below.set4 {B k : Nat} {w0 w : World} {a b c d : Value} (h : Below B w0 w) (hk : B <= k) : Below B w0 ((((w.setCell ⟨k, 0, none⟩ a).setCell ⟨k, 1, none⟩ b).setCell ⟨k, 2, none⟩ c).setCell ⟨k, 3, none⟩ d) :=
 (((h.setCell (by show B <= k; exact hk) _).setCell (by show B <= k; exact hk) _).setCell (by show B <= k; exact hk) _).setCell (by show B <= k; exact hk) _
theorem Off.drop {g : Nat} {w w' : World} (h : Off g w w') (hg : w'.heap[g]? = w.heap[g]?) : Below w.heap.size w w' :=
 ⟨h.os, h.tape, h.output, h.size, fun k hk => by
  rcases Classical.em (k = g) with e | e
  ·rw [e]; exact hg
  ·exact h.block k hk e⟩
theorem Off.drew {g : Nat} {w w' : World} (h : Off g w w') : Off g w w'.drew := ⟨h.os, h.tape, h.output, h.size, h.block⟩
theorem Off.alloc {g : Nat} {w w' : World} (h : Off g w w') (o : Obj) : Off g w (w'.alloc o) :=
 ⟨h.os, h.tape, h.output, by have := h.size; simp; omega, fun k hk hg => by
  have := h.size
  rw [Below.heap_alloc _ _ _ (by omega)]; exact h.block k hk hg⟩
def kE0 (g : Nat) (w2 : World) (r : NT × Int) (s : Option NT) (s8 s9 : Value) (wx : World) : Prop :=
 ∃ g8 lf PA np pc TA nt tc KA nk kc d, s8 = .pointer (some ⟨g8, 0, none⟩) /\ s9 = .int .i64 r.2 /\ w2.heap.size <= g8 /\ wx.heap[g8]? = some (.cells #[.bool lf, .slice PA np pc, .slice TA nt tc, .slice KA nk kc] 26 (0, 0)) /\
  zAx (fun b => w2.heap.size <= b /\ b < wx.heap.size /\ b ≠ g8) d wx (.agg #[.bool lf, .slice PA np pc, .slice TA nt tc, .slice KA nk kc]) r.1 /\ Off g w2 wx /\ zJ6 g s w2 wx
theorem kBi {g : Nat} {w2 w3 : World} {r : NT × Int} {s : Option NT} {lf : Bool} {PA : Option Addr} {np pc : Nat} {TA : Option Addr} {nt tc : Nat} {KA : Option Addr} {nk kc d : Nat} {W : World} (hW : Below w2.heap.size w2 W) (hg : g < w2.heap.size)
  (ht : zAx (fun b => W.heap.size <= b /\ b < w3.heap.size) d w3 (.agg #[.bool lf, .slice PA np pc, .slice TA nt tc, .slice KA nk kc]) r.1) (ho : Off g W w3) (hl : zJ6 g s W w3) :
  kE0 g w2 r s (.pointer (some ⟨w3.heap.size, 0, none⟩)) (.int .i64 r.2) (w3.alloc (.cells #[.bool lf, .slice PA np pc, .slice TA nt tc, .slice KA nk kc] 26)) := by
 have h1 := hW.size
 have h2 := ho.size
 have e : (w3.alloc (.cells #[.bool lf, .slice PA np pc, .slice TA nt tc, .slice KA nk kc] 26)).heap.size = w3.heap.size + 1 := by simp
 refine ⟨_, _, _, _, _, _, _, _, _, _, _, d, rfl, rfl, by omega, heap_alloc_new _ _, ht.block_keep (fun b a1 a2 => by omega) (fun b _ a2 => Below.heap_alloc _ _ _ a2), ((Off.of_below hW).trans ho).alloc _, hl.move h1 (by omega) (hW.block g hg) (Below.heap_alloc _ _ _ (by omega)) (fun b _ a2 => Below.heap_alloc _ _ _ a2)⟩
theorem kBj {g : Nat} {w2 w3 : World} {r : NT × Int} {s : Option NT} {lf : Bool} {PA : Option Addr} {np pc : Nat} {TA : Option Addr} {nt tc : Nat} {KA : Option Addr} {nk kc d g8 : Nat} {W : World} {z0 z1 z2 z3 : Value} (hW : Below w2.heap.size w2 W) (hg : g < w2.heap.size) (hg8 : w2.heap.size <= g8) (hg9 : g8 < W.heap.size)
  (hO : w3.heap[g8]? = some (.cells #[z0, z1, z2, z3] 26 (0, 0))) (ht : zAx (fun b => W.heap.size <= b /\ b < w3.heap.size) d w3 (.agg #[.bool lf, .slice PA np pc, .slice TA nt tc, .slice KA nk kc]) r.1) (ho : Off g W w3) (hl : zJ6 g s W w3) :
  kE0 g w2 r s (.pointer (some ⟨g8, 0, none⟩)) (.int .i64 r.2) ((((w3.setCell ⟨g8, 0, none⟩ (.bool lf)).setCell ⟨g8, 1, none⟩ (.slice PA np pc)).setCell ⟨g8, 2, none⟩ (.slice TA nt tc)).setCell ⟨g8, 3, none⟩ (.slice KA nk kc)) := by
 have h1 := hW.size
 have h2 := ho.size
 refine ⟨g8, _, _, _, _, _, _, _, _, _, _, d, rfl, rfl, hg8, kD hO, ht.block_keep (fun b a1 a2 => by rw [jK]; omega) (fun b a1 a2 => zT (by omega)), ((Off.of_below hW).trans ho).set4 (.inl hg8), hl.move h1 (by rw [jK]; exact Nat.le_refl _) (hW.block g hg) (zT (by omega)) (fun b a1 _ => zT (by omega))⟩
structure kBk (fv : FuncId) (c1 : Value) (g : Nat) (f : NT -> NT × Int) (s : NT -> Option NT) (C : World -> Prop) (pre : NT -> Prop) : Prop where
 enters : ∀ args w, (callFunc fv args).run Tryz.prog w = .ok (.enter fv args) w
 later : ∀ w w', C w -> Below w.heap.size w w' -> C w'
 does : ∀ d w v n, zV d w g v n -> g < w.heap.size -> C w -> pre n -> Calls Tryz.prog fv #[v, c1] w (kEz g (f n) (s n) w)
structure zT1 (fv : FuncId) (c1 c2 : Value) (g : Nat) (f : NT -> NT × Int) (s : NT -> Option NT) (C : World -> Prop) (pre : NT -> Prop) : Prop where
 enters : ∀ args w, (callFunc fv args).run Tryz.prog w = .ok (.enter fv args) w
 later : ∀ w w', C w -> Below w.heap.size w w' -> C w'
 does : ∀ d w v n, zV d w g v n -> g < w.heap.size -> C w -> pre n -> Calls Tryz.prog fv #[v, c1, c2] w (kEz g (f n) (s n) w)
theorem zJ7 {f : NT -> NT × Int} {n : NT} {i : Int} {r : List Int} (h : zBh n i = none) : zIf f n (i :: r) = (zeroT, 5) /\ kB n (i :: r) = none := by
 rw [zIf, zR, h]; exact ⟨rfl, rfl⟩
theorem zJ8 {f : NT -> NT × Int} {n k : NT} {i : Int} {r : List Int} (h : zBh n i = some k) : zIf f n (i :: r) = (if (zIf f k r).2 = 0 then (setK n i.toNat (zIf f k r).1, 0) else (zeroT, (zIf f k r).2)) /\ kB n (i :: r) = kB k r := by
 rw [zIf, zR, h]; exact ⟨rfl, rfl⟩
theorem kO1 {P : Prop} (h : P := by
 intro p
 induction p with
 | nil =>
  intro d w v n A lp c hlp hl hc hg hC hn hp hA hpre
  obtain rfl : lp = 0 := hlp.symm
  obtain ⟨lf, PA, np, pc, TA, nt, tc, KA, nk, kc, rfl⟩ := hn.val
  obtain ⟨wb, hwb⟩ : ∃ wb, wb = (w.alloc (.cells #[.bool lf, .slice PA np pc, .slice TA nt tc, .slice KA nk kc] 26)).alloc (.cells #[.bool false, .slice none 0 0, .slice none 0 0, .slice none 0 0] 26) := ⟨_, rfl⟩
  have hb0 : Below w.heap.size w wb := hwb ▸ kM (Below.refl _ _) (Nat.le_refl _)
  have hsb : wb.heap.size = w.heap.size + 2 := by rw [hwb]; simp
  have htb : wb.heap[w.heap.size]? = some (.cells #[.bool lf, .slice PA np pc, .slice TA nt tc, .slice KA nk kc] 26 (0, 0)) /\ wb.heap[w.heap.size + 1]? = some (.cells #[.bool false, .slice none 0 0, .slice none 0 0, .slice none 0 0] 26 (0, 0)) := hwb ▸ zBj w _ _ _ _ _ _ _ _ _ _
  have HC := hd (R.does d wb _ n (hn.below (hb0.mono (by omega))) (by omega) (R.later _ _ hC hb0) (hpre n rfl))
  have HE := R.enters
  have HB := hd hb0
  have HS := hd hsb
  have HTB := hd htb
  obtain ⟨x0, x1, x2, x3, _, _, _, _⟩ := zJ htb.1
  obtain ⟨FR, hFR⟩ : ∃ FR, FR = f n := ⟨_, rfl⟩
  have HF := hd (show zIf f n [] = FR from hFR.symm)
  have HG := hd (show (kB n []).bind s = s n from rfl)
  rw [<- hFR] at HC
  obtain ⟨F1, F2⟩ := FR
  clear hn hp hA hpre hC hb0 hsb htb hlp hFR
  go_enter Tryz.func130, Tryz.ntmps130
  subst hwb
  go_wp2_with (first | (refine HC.out.mono ?_; intro e w1 h1; obtain ⟨v1, d1, rfl, ht1, ho1, hl1⟩ := h1; obtain ⟨lf4, PA4, np4, pc4, TA4, nt4, tc4, KA4, nk4, kc4, rfl⟩ := (ht1.at_ (B := w1.heap.size) (fun b hb => hb.2)).val; have HR1 := hd ((ho1.block (w.heap.size + 1) (by rw [HS.out]; omega) (by omega)).trans HTB.out.2); obtain ⟨r0, r1, r2, r3, r4, r5, r6, r7⟩ := zJ HR1.out; have HT1 := hd ht1; have HO1 := hd ho1; have HL1 := hd hl1; have hz1 := ho1.size; rw [HS.out] at hz1; clear ht1 ho1 hl1))
  have h7 := kD (a := .bool lf4) (b := .slice PA4 np4 pc4) (c := .slice TA4 nt4 tc4) (d := .slice KA4 nk4 kc4) HR1.out
  obtain ⟨t0, t1, t2, t3, _, _, _, _⟩ := zJ h7
  have hS := HS.out
  refine bodyPost_ret (v := .tuple #[.agg #[.bool lf4, .slice PA4 np4 pc4, .slice TA4 nt4 tc4, .slice KA4 nk4 kc4], .int .i64 F2]) (by simp [results, Tryz.results130, go_sem, t0, t1, t2, t3]) rfl (zB0 HF.out (HT1.out.block_keep (fun b h1 h2 => by rw [jK]; omega) (fun b h1 h2 => zT (by omega))) (((Off.of_below HB.out).trans HO1.out).set4 (.inl (by omega))) ?_)
  rw [HG.out]
  exact HL1.out.move (by omega) (by rw [jK]; exact Nat.le_refl _) (HB.out.block g (by omega)) (zT (by omega)) (fun b h1 h2 => zT (by omega))
 | cons i r ih =>
  intro d w v n A lp c hlp hl hc hg hC hn hp hA hpre
  obtain ⟨k, rfl⟩ : ∃ k, lp = k + 1 := ⟨r.length, by rw [<- hlp]; simp⟩
  have hrk : r.length = k := by simpa using hlp
  obtain ⟨d', lf, ps, tx, ks, PA, pc, TA, tc, KA, kc, hd', hn', rfl, hps, htx, hf, hks⟩ := hn.open_
  obtain ⟨wb, hwb⟩ : ∃ wb, wb = (w.alloc (.cells #[.bool lf, .slice PA ps.length pc, .slice TA tx.length tc, .slice KA ks.length kc] 26)).alloc (.cells #[.bool false, .slice none 0 0, .slice none 0 0, .slice none 0 0] 26) := ⟨_, rfl⟩
  have hb0 : Below w.heap.size w wb := hwb ▸ kM (Below.refl _ _) (Nat.le_refl _)
  have hsb : wb.heap.size = w.heap.size + 2 := by rw [hwb]; simp
  have htb : wb.heap[w.heap.size]? = some (.cells #[.bool lf, .slice PA ps.length pc, .slice TA tx.length tc, .slice KA ks.length kc] 26 (0, 0)) /\ wb.heap[w.heap.size + 1]? = some (.cells #[.bool false, .slice none 0 0, .slice none 0 0, .slice none 0 0] 26 (0, 0)) := hwb ▸ zBj w _ _ _ _ _ _ _ _ _ _
  have hz : ((k : Int) + 1 == 0) = false := by simp; omega
  have hnz : ((k : Int) + 1 != 0) = true := by simp; omega
  obtain ⟨b, o, rfl, hbl, hc0⟩ := hp.at_ (k := 0) (by simp)
  have e0 : iAt (i :: r) 0 = i := rfl
  rw [e0, Nat.add_zero] at hc0
  have hcb := (hb0.cell (p := ⟨b, o, none⟩) (by show b < _; omega)).trans hc0
  have hbl2 : b < w.heap.size := hbl
  have hbg : b ≠ g := hA (by simp) _ rfl
  obtain ⟨D, hD, hDA, hrun⟩ := zSd (some ⟨b, o, none⟩) k c hc
  have HD := hd (hD w _ i r hp hrk)
  have HDA := hd (hDA g (hA (by simp)))
  have hl3 := hf.2.2.2.1
  have HN := hd hn
  have HKS := hd hks
  have HPRE := hd hpre
  have HCC := hd hC
  have HB := hd hb0
  have HS := hd hsb
  have HTB := hd htb
  have HRK := hd hrk
  have HN' := hd hn'
  have HIH := hd ih
  obtain ⟨x0, x1, x2, x3, _, _, _, _⟩ := zJ htb.1
  have l0 := kL x0
  have l1 := kL x1
  have l2 := kL x2
  have l3 := kL x3
  have lc := kL hcb
  obtain ⟨hb, hhb⟩ : ∃ hb, zOf n i = hb := ⟨_, rfl⟩
  have HK := fun u : zMa wb.heap.size wb => hd (zD6 n i hb hhb d u.1 _ ((hn.below ((hb0.trans (u.2.mono hb0.size)).mono (by omega))).more (by have := u.2.size; omega)))
  have HHB := hd hhb
  clear hn hps htx hf hks hd' hb0 hsb htb hp hA hDA hpre hC hlp hD hrk hn' ih hhb x0 x1 x2 x3 hc0 hcb
  go_enter Tryz.func130, Tryz.ntmps130
  cases hb
  ·have HF := hd (zJ7 (f := f) (r := r) (zJx HHB.out))
   subst hwb
   go_wp2_with fail
   refine zAu ((w.alloc (.cells #[.bool lf, .slice PA ps.length pc, .slice TA tx.length tc, .slice KA ks.length kc] 26)).alloc (.cells #[.bool false, .slice none 0 0, .slice none 0 0, .slice none 0 0] 26)).heap.size (by kernel_rfl) (by kernel_rfl) ?_
   repeat (go_big_quiet_step (exact zFm (Nat.le_refl _) (HK _).out))
   refine wpQuiet_nil ?_
   intro _ hu
   obtain ⟨⟨w2, hw2⟩, rfl⟩ := hu
   have HR2 := hd (kI HTB.out.2 hw2)
   obtain ⟨r0, r1, r2, r3, r4, r5, r6, r7⟩ := zJ HR2.out
   have HW2 := hd hw2
   have hz2 := hw2.size
   rw [HS.out] at hz2
   clear l0 l1 l2 l3 lc HK hw2
   go_wp2
   have h7 := kD (a := .bool false) (b := .slice none 0 0) (c := .slice none 0 0) (d := .slice none 0 0) HR2.out
   obtain ⟨t0, t1, t2, t3, _, _, _, _⟩ := zJ h7
   have hS := HS.out
   refine bodyPost_ret (v := .tuple #[.agg #[.bool false, .slice none 0 0, .slice none 0 0, .slice none 0 0], .int .i64 5]) (by simp [results, Tryz.results130, go_sem, t0, t1, t2, t3]) rfl (zB0 HF.out.1 (zBs _ 0 _) ((Off.of_below (HB.out.trans (HW2.out.mono (by omega)))).set4 (.inl (by omega))) ?_)
   rw [HF.out.2]
   exact (zT (by omega)).trans ((HW2.out.block g (by omega)).trans (HB.out.block g (by omega)))
  ·obtain ⟨kid, hkid⟩ := zJw HHB.out
   obtain ⟨hk1, hk2, hk3⟩ := zA1 hkid
   have HF := hd (zJ8 (f := f) (r := r) hkid)
   obtain ⟨j, hj⟩ : ∃ j : Nat, i = (j : Int) := ⟨i.toNat, by omega⟩
   subst hj
   have hj1 : j < ks.length := by have := hk2; rw [HN'.out] at this; simp only [NT.ks] at this; omega
   have HK3 := hd (show ks[j]? = some kid by have := hk3; rw [HN'.out] at this; simpa [NT.ks] using this)
   have HPK := hd (show ∀ a, kB kid r = some a -> pre a from fun a ha => HPRE.out a (by rw [HF.out.2]; exact ha))
   clear hkid hk1 hk2 hk3
   subst hwb
   go_wp2_with fail
   refine zAu ((w.alloc (.cells #[.bool lf, .slice PA ps.length pc, .slice TA tx.length tc, .slice KA ks.length kc] 26)).alloc (.cells #[.bool false, .slice none 0 0, .slice none 0 0, .slice none 0 0] 26)).heap.size (by kernel_rfl) (by kernel_rfl) ?_
   repeat (go_big_quiet_step (exact zFm (Nat.le_refl _) (HK _).out))
   refine wpQuiet_nil ?_
   intro w2 hu
   obtain ⟨⟨_, hw2⟩, rfl⟩ := hu
   have hz2 := hw2.size
   rw [HS.out] at hz2
   have HB2 := hd (show Below w.heap.size w w2 from HB.out.trans (hw2.mono (by rw [HS.out]; omega)))
   have HV2 := hd (kI HTB.out.1 hw2)
   have HR2 := hd (kI HTB.out.2 hw2)
   have hpc : w2.cell? ⟨b, o, none⟩ = some (.int .i64 j) := lc ⟨w2, hw2⟩
   obtain ⟨m2, b', o', lf2, PA2, np2, pc2, TA2, nt2, tc2, KA2, nk2, kc2, hm2, rfl, hbg2, hnm2, c0, c1, c2, c3⟩ := (HKS.out.below (HB2.out.mono (by omega))).at_ hj1
   have hmk : m2 = kid := by have := HK3.out; rw [hm2] at this; injection this
   subst hmk
   have HN2 := hd hnm2
   obtain ⟨x0, x1, x2, x3, _, _, _, _⟩ := zJ HV2.out
   obtain ⟨r0, r1, r2, r3, r4, r5, r6, r7⟩ := zJ HR2.out
   clear l0 l1 l2 l3 lc HK hw2 hm2 hnm2
   have HCH := fun (w' : World) (hb : Below w2.heap.size w2 w') => hd (HIH.out d' w' _ m2 D k (c - 1) HRK.out (by omega) (by omega) (by have := hb.size; omega) (R.later _ _ HCC.out (HB2.out.trans (hb.mono (by omega)))) (HN2.out.below (hb.mono (by omega))) ((HD.out.below (HB2.out.trans (hb.mono (by omega)))).more (by have := hb.size; omega)) (fun _ => HDA.out) HPK.out)
   obtain ⟨FR, hFR⟩ : ∃ FR, FR = zIf f m2 r := ⟨_, rfl⟩
   have HFR := hd hFR
   have HMK := hd (show ∀ W, Off g w2 W -> (Off g w2 W /\ W.cell? ⟨w.heap.size, 3, none⟩ = some (.slice (some ⟨b', o', none⟩) ks.length kc) /\ W.cell? ⟨b, o, none⟩ = some (.int .i64 j) /\ W.cell? ⟨b', o' + j * 4, none⟩ = some (.bool lf2) /\ W.cell? ⟨b', o' + j * 4 + 1, none⟩ = some (.slice PA2 np2 pc2) /\ W.cell? ⟨b', o' + j * 4 + 2, none⟩ = some (.slice TA2 nt2 tc2) /\ W.cell? ⟨b', o' + j * 4 + 3, none⟩ = some (.slice KA2 nk2 kc2)) from fun W h =>
    ⟨h, (h.cell (p := ⟨w.heap.size, 3, none⟩) (by show w.heap.size < _; omega) (by show w.heap.size ≠ g; omega)).trans x3, (h.cell (p := ⟨b, o, none⟩) (by show b < _; omega) (by show b ≠ g; omega)).trans hpc, (h.cell (kQ c0) (by show b' ≠ g; omega)).trans c0, (h.cell (kQ c1) (by show b' ≠ g; omega)).trans c1, (h.cell (kQ c2) (by show b' ≠ g; omega)).trans c2, (h.cell (kQ c3) (by show b' ≠ g; omega)).trans c3⟩)
   rw [<- hFR] at HCH
   clear hFR
   go_upto_region 5 with fail
   go_cut [8, 9] (fun s8 s9 wx => kE0 g w2 FR ((kB m2 r).bind s) s8 s9 wx)
   case first =>
    go_region_held3 (fun W => Off g w2 W /\ W.cell? ⟨w.heap.size, 3, none⟩ = some (.slice (some ⟨b', o', none⟩) ks.length kc) /\ W.cell? ⟨b, o, none⟩ = some (.int .i64 j) /\ W.cell? ⟨b', o' + j * 4, none⟩ = some (.bool lf2) /\ W.cell? ⟨b', o' + j * 4 + 1, none⟩ = some (.slice PA2 np2 pc2) /\ W.cell? ⟨b', o' + j * 4 + 2, none⟩ = some (.slice TA2 nt2 tc2) /\ W.cell? ⟨b', o' + j * 4 + 3, none⟩ = some (.slice KA2 nk2 kc2))
     (first
      | assumption
      | exact HMK.out _ (Off.refl _ _).drew
      | (go_split_ands; exact HMK.out _ (Off.alloc (by assumption) _))
      | (go_split_ands; exact HMK.out _ (Off.set4 (by assumption) (.inl (by first | exact Nat.le_refl _ | omega)))))
     (first
      | (go_at_call 130; refine Calls.mono (HCH _ ?hh).out ?_; (case hh => first | exact (Below.refl _ _).drew | exact ((Below.refl _ _).drew.alloc (Nat.le_refl _) _)); intro e w3 h3; obtain ⟨v3, d3, rfl, ht3, ho3, hl3'⟩ := h3; obtain ⟨lf4, PA4, np4, pc4, TA4, nt4, tc4, KA4, nk4, kc4, rfl⟩ := (ht3.at_ (B := w3.heap.size) (fun b hb => hb.2)).val; have hS3 := HMK.out w3 (Off.trans (by go_split_ands; assumption) ho3); have HT3 := hd ht3; have HO3 := hd ho3; have HL3 := hd hl3'; (first | (have hOc := hd ((ho3.block w2.heap.size (by show w2.heap.size < (World.heap _).size; simp) (by omega)).trans (heap_alloc_new (World.drew w2) _)); obtain ⟨q0, q1, q2, q3, q4, q5, q6, q7⟩ := zJ hOc.out) | skip); have hz3 := ho3.size; clear ht3 ho3 hl3'))
    ·go_wp2_with fail
     go_meet
     exact kBi (Below.refl _ _).drew (by omega) HT3.out HO3.out HL3.out
    ·go_wp2_with fail
     go_meet
     exact kBj ((Below.refl _ _).drew.alloc (Nat.le_refl _) _) (by omega) (Nat.le_refl _) (by simp) hOc.out HT3.out HO3.out HL3.out
   case rest =>
    obtain ⟨g8, lf8, PA8, np8, pc8, TA8, nt8, tc8, KA8, nk8, kc8, d8, rfl, rfl, hg8, hO8, ht8, ho8, hl8⟩ := hcut
    obtain ⟨F1, F2⟩ := FR
    have hz8 := ho8.size
    have HO8 := hd ho8
    have HL8 := hd hl8
    have HT8 := hd ht8
    have HK8 := hd hO8
    have HV8 := hd ((ho8.block w.heap.size (by omega) (by omega)).trans HV2.out)
    have HR8 := hd ((ho8.block (w.heap.size + 1) (by omega) (by omega)).trans HR2.out)
    have hp8 := (ho8.cell (p := ⟨b, o, none⟩) (by show b < _; omega) (by show b ≠ g; omega)).trans hpc
    have HOW := hd (show Off g w wc from (Off.of_below HB2.out).trans ho8)
    have hlg8 := lt_of_block hO8
    clear x0 x1 x2 x3 r0 r1 r2 r3 r4 r5 r6 r7 c0 c1 c2 c3 hpc hO8 ht8 ho8 hl8 HMK HCH hrun
    obtain ⟨x0, x1, x2, x3, _, _, _, _⟩ := zJ HV8.out
    obtain ⟨r0, r1, r2, r3, r4, r5, r6, r7⟩ := zJ HR8.out
    obtain ⟨k0, k1, k2, k3, _, _, _, _⟩ := zJ HK8.out
    have hS := HS.out
    rcases Classical.em (F2 = 0) with h0 | h0
    ·subst h0
     have HE := hd (show zIf f n ((j : Int) :: r) = (jS n j 1 [F1], 0) by rw [HF.out.1, <- HFR.out]; rfl)
     obtain ⟨dm, hdm⟩ : ∃ dm, dm = max d d8 := ⟨_, rfl⟩
     obtain ⟨Q, hQ⟩ : ∃ Q : Nat -> Prop, Q = fun b => w2.heap.size <= b /\ b < wc.heap.size /\ b ≠ g8 := ⟨_, rfl⟩
     obtain ⟨W8, hW8⟩ : ∃ W8, W8 = (wc.alloc (.cells #[.bool lf8, .slice PA8 np8 pc8, .slice TA8 nt8 tc8, .slice KA8 nk8 kc8] 26)).drew := ⟨_, rfl⟩
     have hb8 : Below wc.heap.size wc W8 := hW8 ▸ ((Below.refl _ _).alloc (Nat.le_refl _) _).drew
     have hs8 : W8.heap.size = wc.heap.size + 1 := by rw [hW8]; show (wc.alloc _).heap.size = _; simp
     have hvl : VL W8 W8.heap.size (some ⟨wc.heap.size, 0, none⟩) [.bool lf8, .slice PA8 np8 pc8, .slice TA8 nt8 tc8, .slice KA8 nk8 kc8] := by
      rw [hs8, hW8]; exact zYo wc 26 [.bool lf8, .slice PA8 np8 pc8, .slice TA8 nt8 tc8, .slice KA8 nk8 kc8]
     have hoth : zGi Q dm W8 (some ⟨wc.heap.size, 0, none⟩) [.agg #[.bool lf8, .slice PA8 np8 pc8, .slice TA8 nt8 tc8, .slice KA8 nk8 kc8]] [F1] := ⟨rfl, by simpa [Value.cells] using hvl, fun q m hm => by
      cases q with
      | zero =>
       simp only [List.getElem?_cons_zero, Option.some.injEq] at hm
       subst hm
       refine ⟨_, rfl, (HT8.out.deep (d' := dm) (by omega)).keep (fun b hb => by rw [hQ]; exact hb) (fun p hp => ⟨hb8.cell hp.2.1, hb8.frozen hp.2.1⟩)⟩
      | succ q => simp at hm⟩
     have HSP := hd (zIe Q dm W8 (fun b hb => by rw [hQ] at hb; have := hb.2.1; omega) _ n j 1 1 1 (j : Int) 1 rfl rfl _ _ [F1] (((HN.out.below (HOW.out.below (Nat.le_refl _) (by omega))).below (hb8.mono (by omega))).deep (d' := dm) (by omega) |>.more (by omega)) hoth rfl (by have := hj1; rw [HN'.out]; exact this) (by have := hl3; rw [HN'.out]; show ks.length + 1 <= _; omega))
     have HQ8 := hd hQ
     have HS8 := hd hs8
     have HB8 := hd hb8
     clear hdm hQ hb8 hs8 hvl hoth
     have HMK2 := hd (show ∀ W : World, (∀ k, (k = w.heap.size ∨ k = b ∨ k = g8) -> W.heap[k]? = wc.heap[k]?) -> (W.cell? ⟨w.heap.size, 0, none⟩ = some (.bool lf) /\ W.cell? ⟨w.heap.size, 1, none⟩ = some (.slice PA ps.length pc) /\ W.cell? ⟨w.heap.size, 2, none⟩ = some (.slice TA tx.length tc) /\ W.cell? ⟨w.heap.size, 3, none⟩ = some (.slice (some ⟨b', o', none⟩) ks.length kc) /\ W.cell? ⟨b, o, none⟩ = some (.int .i64 j) /\ W.cell? ⟨g8, 0, none⟩ = some (.bool lf8) /\ W.cell? ⟨g8, 1, none⟩ = some (.slice PA8 np8 pc8) /\ W.cell? ⟨g8, 2, none⟩ = some (.slice TA8 nt8 tc8) /\ W.cell? ⟨g8, 3, none⟩ = some (.slice KA8 nk8 kc8)) from fun W h =>
      ⟨(World.cell?_of_block (h _ (.inl rfl))).trans x0, (World.cell?_of_block (h _ (.inl rfl))).trans x1, (World.cell?_of_block (h _ (.inl rfl))).trans x2, (World.cell?_of_block (h _ (.inl rfl))).trans x3, (World.cell?_of_block (h _ (.inr (.inl rfl)))).trans hp8, (World.cell?_of_block (h _ (.inr (.inr rfl)))).trans k0, (World.cell?_of_block (h _ (.inr (.inr rfl)))).trans k1, (World.cell?_of_block (h _ (.inr (.inr rfl)))).trans k2, (World.cell?_of_block (h _ (.inr (.inr rfl)))).trans k3⟩)
     have HSa := hd (HMK2.out wc.drew (fun _ _ => rfl))
     have HSb := hd (HMK2.out (wc.alloc (.cells #[.bool lf8, .slice PA8 np8 pc8, .slice TA8 nt8 tc8, .slice KA8 nk8 kc8] 26)).drew (fun k hk => Below.heap_alloc wc _ k (by omega)))
     subst hW8
     go_wp2_with fail
     go_region_held3 (fun W => W.cell? ⟨w.heap.size, 0, none⟩ = some (.bool lf) /\ W.cell? ⟨w.heap.size, 1, none⟩ = some (.slice PA ps.length pc) /\ W.cell? ⟨w.heap.size, 2, none⟩ = some (.slice TA tx.length tc) /\ W.cell? ⟨w.heap.size, 3, none⟩ = some (.slice (some ⟨b', o', none⟩) ks.length kc) /\ W.cell? ⟨b, o, none⟩ = some (.int .i64 j) /\ W.cell? ⟨g8, 0, none⟩ = some (.bool lf8) /\ W.cell? ⟨g8, 1, none⟩ = some (.slice PA8 np8 pc8) /\ W.cell? ⟨g8, 2, none⟩ = some (.slice TA8 nt8 tc8) /\ W.cell? ⟨g8, 3, none⟩ = some (.slice KA8 nk8 kc8))
      (first
       | (with_reducible exact HS10)
       | (with_reducible exact hS9)
       | (with_reducible exact HSb.out)
       | (with_reducible exact HSa.out))
      (first
       | (go_at_call 132; refine HSP.out.mono ?_; intro e w9 h9; obtain ⟨v9, rfl, ht9, hb9⟩ := h9; obtain ⟨lf9, PA9, np9, pc9, TA9, nt9, tc9, KA9, nk9, kc9, rfl⟩ := (ht9.at_ (B := w9.heap.size) (fun b hb => hb.2)).val; have HR9 := hd (((hb9.block _ (by have := HS8.out; omega)).trans (HB8.out.block (w.heap.size + 1) (by omega))).trans HR8.out); obtain ⟨q0, q1, q2, q3, q4, q5, q6, q7⟩ := zJ HR9.out; have hS9 := HMK2.out w9 (fun k hk => (hb9.block k (by have := HS8.out; omega)).trans (HB8.out.block k (by omega))); have HS10 := HMK2.out _ (fun k hk => (zT (w := w9) (g := w.heap.size + 1) (a := .bool lf9) (b := .slice PA9 np9 pc9) (c := .slice TA9 nt9 tc9) (d := .slice KA9 nk9 kc9) (by omega)).trans ((hb9.block k (by have := HS8.out; omega)).trans (HB8.out.block k (by omega)))); have HT9 := hd ht9; have HB9 := hd hb9; have hz9 := hb9.size; rw [HS8.out] at hz9; clear ht9 hb9))
     go_wp2
     have h7 := kD (a := .bool lf9) (b := .slice PA9 np9 pc9) (c := .slice TA9 nt9 tc9) (d := .slice KA9 nk9 kc9) HR9.out
     obtain ⟨t0, t1, t2, t3, _, _, _, _⟩ := zJ h7
     have hs9 := HS8.out
     have HOW9 := hd (show Off g w w9 from (HOW.out.trans (Off.of_below HB8.out)).trans (Off.of_below HB9.out))
     refine bodyPost_ret (v := .tuple #[.agg #[.bool lf9, .slice PA9 np9 pc9, .slice TA9 nt9 tc9, .slice KA9 nk9 kc9], .int .i64 0]) (by simp [results, Tryz.results130, go_sem, t0, t1, t2, t3]) rfl (zB0 HE.out (HT9.out.keep (fun b hb => ?_) (fun p hp => ?_)) (HOW9.out.set4 (.inl (by omega))) ?_)
     ·rw [jK]
      obtain ⟨h1, h2⟩ := hb
      rw [HQ8.out] at h1
      refine ⟨?_, h2⟩
      rcases h1 with h | h
      ·have := h.1; omega
      ·omega
     ·have hne : p.block ≠ w.heap.size + 1 := by
       obtain ⟨h1, _⟩ := hp
       rw [HQ8.out] at h1
       rcases h1 with h | h
       ·have := h.1; omega
       ·omega
      exact ⟨World.cell?_of_block (zT hne), World.frozen?_of_block (zT hne)⟩
     ·rw [HF.out.2]
      exact HL8.out.move (by omega) (by rw [jK]; omega) (HB2.out.block g hg) ((zT (by omega)).trans ((HB9.out.block g (by omega)).trans (HB8.out.block g (by omega)))) (fun b h1 h2 => (zT (by omega)).trans ((HB9.out.block b (by omega)).trans (HB8.out.block b h2)))
    ·have g1 : (F2 == 0) = false := by simp [h0]
     have g2 : (F2 != 0) = true := by simp [h0]
     have HE := hd (show zIf f n ((j : Int) :: r) = (zeroT, F2) by rw [HF.out.1, <- HFR.out]; simp [h0])
     clear h0
     go_wp2
     have h7 := kD (a := .bool false) (b := .slice none 0 0) (c := .slice none 0 0) (d := .slice none 0 0) HR8.out
     obtain ⟨t0, t1, t2, t3, _, _, _, _⟩ := zJ h7
     refine bodyPost_ret (v := .tuple #[.agg #[.bool false, .slice none 0 0, .slice none 0 0, .slice none 0 0], .int .i64 F2]) (by simp [results, Tryz.results130, go_sem, t0, t1, t2, t3]) rfl (zB0 HE.out (zBs _ 0 _) (HOW.out.set4 (.inl (by omega))) ?_)
     rw [HF.out.2]
     exact HL8.out.move (by omega) (by rw [jK]; exact Nat.le_refl _) (HB2.out.block g hg) (zT (by omega)) (fun b h1 h2 => zT (by omega))) : P := h
set_option maxRecDepth 100000 in
theorem zT2 {fv : FuncId} {c1 : Value} {g : Nat} {f : NT -> NT × Int} {s : NT -> Option NT} {C : World -> Prop} {pre : NT -> Prop} (R : kBk fv c1 g f s C pre) :
  ∀ (p : List Int) (d : Nat) (w : World) (v : Value) (n : NT) (A : Option Addr) (lp c : Nat), p.length = lp -> lp <= 1000000 -> lp <= c -> g < w.heap.size -> C w -> zV d w g v n -> IL w w.heap.size A p -> (p ≠ [] -> ∀ a, A = some a -> a.block ≠ g) -> (∀ a, kB n p = some a -> pre a) ->
   Calls Tryz.prog 130 #[v, .slice A lp c, .func (.func fv) #[] #[c1]] w (kEz g (zIf f n p) ((kB n p).bind s) w) := by
 exact kO1
set_option maxRecDepth 100000 in
theorem zNf {fv : FuncId} {c1 c2 : Value} {g : Nat} {f : NT -> NT × Int} {s : NT -> Option NT} {C : World -> Prop} {pre : NT -> Prop} (R : zT1 fv c1 c2 g f s C pre) :
  ∀ (p : List Int) (d : Nat) (w : World) (v : Value) (n : NT) (A : Option Addr) (lp c : Nat), p.length = lp -> lp <= 1000000 -> lp <= c -> g < w.heap.size -> C w -> zV d w g v n -> IL w w.heap.size A p -> (p ≠ [] -> ∀ a, A = some a -> a.block ≠ g) -> (∀ a, kB n p = some a -> pre a) ->
   Calls Tryz.prog 130 #[v, .slice A lp c, .func (.func fv) #[] #[c1, c2]] w (kEz g (zIf f n p) ((kB n p).bind s) w) := by
 exact kO1
end Go.Proofs.YtmkciabefepelaaGreat
