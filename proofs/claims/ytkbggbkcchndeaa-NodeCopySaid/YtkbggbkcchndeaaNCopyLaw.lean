/- NodeCopy answers true. -/
import Derived.Test.YtkbggbkcchndeaaNCopy
import Derived.Test.YtkbggbkcchndeaaNSpoil2
namespace Go.Proofs.Ytkbggbkcchndeaa
open Go.RowKit

theorem Box.aside {lo hi : Nat} {w w' : World} {b : Nat} {u0 u1 u2 u3 : Value} (h : Box w b u0 u1 u2 u3) (hs : Spoilt lo hi w w') (hb : ¬ (lo ≤ b ∧ b < hi)) : Box w' b u0 u1 u2 u3 :=
  ⟨(hs.cell _ (cell_in h.1) hb).trans h.1, (hs.cell _ (cell_in h.2.1) hb).trans h.2.1, (hs.cell _ (cell_in h.2.2.1) hb).trans h.2.2.1, (hs.cell _ (cell_in h.2.2.2) hb).trans h.2.2.2⟩
theorem Spoilt.of_below {lo hi : Nat} {w w' : World} (h : Below w.heap.size w w') (hl : lo ≤ w.heap.size) (hh : hi ≤ w.heap.size) : Spoilt lo hi w w' :=
  ⟨h.mono hl, h.size, fun _ hp _ => h.cell hp, fun p hp => ⟨.inl (h.cell (by omega)).symm, h.frozen (by omega)⟩⟩
theorem bl2 {w w3 w4 : World} {o : Obj} (h : Below w.heap.size w w3) (h4 : Below (w3.alloc o).heap.size (w3.alloc o) w4) : Below w.heap.size w w4 := h.trans ((ex_below h4).mono h.size)
theorem tree_later {P : Nat → Prop} {B d : Nat} {w w' : World} {v : Value} {n : NT} (h : TreeP (fun b => P b ∧ b < B) d w v n) (hb : Below B w w') : TreeP (fun b => P b ∧ b < B) d w' v n :=
  h.keep (fun _ hb => hb) (fun _ hp => ⟨hb.cell hp.2, hb.frozen hp.2⟩)
theorem sz_lt {w : World} {o : Obj} {k : Nat} (_h : (w.alloc o).heap.size ≤ k) : w.heap.size + 1 ≤ (w.alloc o).heap.size := by simp
theorem vp_block {P : Nat → Prop} {w : World} {A : Option Addr} {xs : List Value} {b o : Nat} (h : VP P w A xs) (hx : 0 < xs.length) (e : A = some ⟨b, o, none⟩) : P b := by
  obtain ⟨b', o', e', hb, _⟩ := h 0 xs[0] (List.getElem?_eq_getElem hx)
  rw [e] at e'
  injection e' with e'
  injection e' with e1
  rw [e1]; exact hb
/-- A tree, as far as it is read, by its cells alone. -/
theorem cells_keep {lo hi A B : Nat} {w w' : World} (hc : ∀ p : Addr, p.block < w.heap.size → ¬ (lo ≤ p.block ∧ p.block < hi) → w'.cell? p = w.cell? p) (hA : hi ≤ A) (hB : B ≤ w.heap.size) : ∀ {d : Nat} {v : Value} {n : NT}, TreeP (fun b => A ≤ b ∧ b < B) d w v n → NodeAt d w' B v n
  | 0, _, _, h => h
  | d + 1, _, _, ⟨PA, pc, TA, tc, KA, kc, e, hp, ht, hf, hks⟩ => by
    have hsame : ∀ p : Addr, (A ≤ p.block ∧ p.block < B) → w'.cell? p = w.cell? p := fun p hp => hc p (by omega) (by omega)
    refine ⟨PA, pc, TA, tc, KA, kc, e, fun hn => ?_, fun hn => ?_, hf, fun k m hm => ?_⟩
    · obtain ⟨b, o, e1, hb, hcl⟩ := (hp.pl (B := B) (fun b hb => hb.2)) hn
      have hbb := vp_block hp (by rw [pv_len]; have := List.length_pos_iff.2 hn; omega) e1
      exact ⟨b, o, e1, hb, fun k hk => ⟨(hsame _ hbb).trans (hcl k hk).1, (hsame _ hbb).trans (hcl k hk).2⟩⟩
    · obtain ⟨b, o, e1, hb, hcl⟩ := (ht.vl (B := B) (fun b hb => hb.2)) hn
      have hbb := vp_block ht (List.length_pos_iff.2 hn) e1
      exact ⟨b, o, e1, hb, fun k u hk => (hsame _ hbb).trans (hcl k u hk)⟩
    · obtain ⟨b, o, u, e1, hb, hn, hcl, _⟩ := hks k m hm
      exact ⟨b, o, u, e1, hb.2, cells_keep hc hA hB hn, hcl.keep fun p hp => hsame p (by rw [hp]; exact hb)⟩
theorem tree_aside {lo hi A B d : Nat} {w w' : World} {v : Value} {n : NT} (h : TreeP (fun b => A ≤ b ∧ b < B) d w v n) (hA : hi ≤ A) (hB : B ≤ w.heap.size) (hs : Spoilt lo hi w w') : NodeAt d w' w'.heap.size v n := by
  exact (cells_keep hs.cell hA hB h).more (Nat.le_trans hB hs.size)

set_option maxRecDepth 100000 in
set_option maxHeartbeats 16000000 in
theorem copylaw_any (d : Nat) (w : World) (v : Value) (n : NT) (hn : NodeAt d w w.heap.size v n) : Calls Try.prog 5 #[v] w (Still (.bool true) w) := by
  obtain ⟨lf, PA, np, pc, TA, nt, tc, KA, nk, kc, rfl⟩ := hn.val
  have hb1 : Below w.heap.size w (w.alloc (.cells #[.bool lf, .slice PA np pc, .slice TA nt tc, .slice KA nk kc] 26)) := (Below.refl _ _).alloc (Nat.le_refl _) _
  have HL := hd (live_any (w.alloc (.cells #[.bool lf, .slice PA np pc, .slice TA nt tc, .slice KA nk kc] 26)))
  have HN := hd hn
  have HB := hd hb1
  obtain ⟨F, hF⟩ : ∃ F, F = fewB 200 n := ⟨_, rfl⟩
  have HFW := fun (d : Nat) (w : World) (v : Value) (h : NodeAt d w w.heap.size v n) => hd (few_any d w v n 200 (by unfold In64; omega) h)
  rw [← hF] at HFW
  have HSM := fun (w : World) (v v' : Value) (h : NodeAt d w w.heap.size v n) (h' : NodeAt d w w.heap.size v' n) => hd (nsame_any d d w v v' n n h h')
  rw [eqT_self] at HSM
  clear hn hb1 hF
  cases F
  · clear HSM
    go_enter Try.func5, Try.ntmps5
    go_wp2_with (first
      | (go_at_call 10; refine (HFW d _ _ (HN.out.later B1.out)).out.mono ?_; rintro e w2 ⟨rfl, b2⟩)
      | (go_at_call 9; refine HL.out.mono ?_; rintro e w1 ⟨rfl, b1⟩; obtain ⟨x0, x1, x2, x3⟩ := box4 b1; have B1 := hd (HB.out.trans (b1.mono HB.out.size))))
    go_ret
    exact ⟨rfl, B1.out.trans (b2.mono B1.out.size)⟩
  · go_enter Try.func5, Try.ntmps5
    go_wp2_with (first
      | (go_at_call 22; refine (HSM _ _ _ (tree_aside TB8.out (Nat.le_trans (Nat.le_succ _) LO4.out) HB8.out HS9.out) (HN.out.later B9.out)).out.mono ?_; rintro e w10 ⟨rfl, b10⟩; have B10 := hd (B9.out.trans (b10.mono B9.out.size)))
      | (go_at_call 23; refine (spoil_any _ _ LO3.out d _ _ HI8.out ((TA3.out.shape).keep (Spoilt.of_below LA8.out LO3.out (Nat.le_refl _)))).mono ?_; rintro e w9 ⟨rfl, hs9⟩; have HS9 := hd hs9; have B9 := hd (B8.out.trans (hs9.below.mono LO2.out)); clear x0 x1 x2 x3 y0 y1 y2 y3 z0 z1 z2 z3; obtain ⟨x0, x1, x2, x3⟩ := XN8.out.aside hs9 (by have := LO2.out; have := LO1.out; omega); obtain ⟨z0, z1, z2, z3⟩ := XB8.out.aside hs9 (by have := LO4.out; have := LO5.out; omega); clear hs9)
      | (go_at_call 22; refine (HSM _ _ _ (NB7.out) (HN.out.later B7.out)).out.mono ?_; rintro e w8 ⟨rfl, b8⟩; have B8 := hd (B7.out.trans (b8.mono B7.out.size)); have XN8 := hd (XN7.out.keep b8); have XB8 := hd (XB7.out.keep b8); have LA8 := hd (LA7.out.trans (b8.mono LA7.out.size)); have TB8 := hd (tree_later TB4.out (LB7.out.trans (b8.mono LB7.out.size))); have HI8 := hd (Nat.le_trans LA7.out.size b8.size); have HB8 := hd (Nat.le_trans LB7.out.size b8.size); clear x0 x1 x2 x3 y0 y1 y2 y3 z0 z1 z2 z3; obtain ⟨x0, x1, x2, x3⟩ := XN8.out; obtain ⟨y0, y1, y2, y3⟩ := XA7.out.keep b8; obtain ⟨z0, z1, z2, z3⟩ := XB8.out; clear b8)
      | (go_at_call 22; refine (HSM _ _ _ (NA6.out) (HN.out.later B6.out)).out.mono ?_; rintro e w7 ⟨rfl, b7⟩; have B7 := hd (B6.out.trans (b7.mono B6.out.size)); have XN7 := hd (XN6.out.keep b7); have XB7 := hd (XB6.out.keep b7); have XA7 := hd (XA6.out.keep b7); have LA7 := hd (LA6.out.trans (b7.mono LA6.out.size)); have LB7 := hd (LB6.out.trans (b7.mono LB6.out.size)); have NB7 := hd ((TB4.out.at_ (B := w4.heap.size) (fun b h => h.2)).later LB7.out); clear x0 x1 x2 x3 y0 y1 y2 y3 z0 z1 z2 z3; obtain ⟨x0, x1, x2, x3⟩ := XN7.out; obtain ⟨y0, y1, y2, y3⟩ := XA7.out; obtain ⟨z0, z1, z2, z3⟩ := XB7.out; clear b7)
      | (go_at_call 10; refine (HFW d _ _ (NB5.out)).out.mono ?_; rintro e w6 ⟨rfl, b6⟩; have B6 := hd (B5.out.trans (b6.mono B5.out.size)); have XN6 := hd (XN5.out.keep b6); have XB6 := hd (XB5.out.keep b6); have XA6 := hd (XA5.out.keep b6); have LA6 := hd (LA5.out.trans (b6.mono LA5.out.size)); have LB6 := hd (LB5.out.trans (b6.mono LB5.out.size)); have NA6 := hd ((TA3.out.at_ (B := w3.heap.size) (fun b h => h.2)).later LA6.out); clear x0 x1 x2 x3 y0 y1 y2 y3 z0 z1 z2 z3; obtain ⟨x0, x1, x2, x3⟩ := XN6.out; obtain ⟨y0, y1, y2, y3⟩ := XA6.out; obtain ⟨z0, z1, z2, z3⟩ := XB6.out; clear b6)
      | (go_at_call 10; refine (HFW d _ _ ((TA3.out.at_ (B := w3.heap.size) (fun b h => h.2)).later (LA4.out.alloc LA4.out.size _))).out.mono ?_; rintro e w5 ⟨rfl, b5⟩; have B5 := hd (bl2 B4.out b5); have XN5 := hd ((XN4.out.alloc _).keep b5); have XB5 := hd ((Box.new w4 _ _ _ _ _).keep b5); have XA5 := hd ((XA4.out.alloc _).keep b5); have LA5 := hd (bl2 LA4.out b5); have LB5 := hd (ex_below b5); have NB5 := hd ((TB4.out.at_ (B := w4.heap.size) (fun b h => h.2)).later LB5.out); clear x0 x1 x2 x3 y0 y1 y2 y3; obtain ⟨x0, x1, x2, x3⟩ := XN5.out; obtain ⟨y0, y1, y2, y3⟩ := XA5.out; obtain ⟨z0, z1, z2, z3⟩ := XB5.out; clear b5)
      | (go_at_call 11; refine (copy_any d _ _ n (HN.out.later (B3.out.alloc B3.out.size _))).mono ?_; intro e w4 h4; obtain ⟨v4, rfl, t4, b4⟩ := h4; obtain ⟨lf4, PA4, np4, pc4, TA4, nt4, tc4, KA4, nk4, kc4, rfl⟩ := (t4.at_ (B := w4.heap.size) (fun b hb => hb.2)).val; have B4 := hd (bl2 B3.out b4); have XN4 := hd ((XN3.out.alloc _).keep b4); have XA4 := hd ((Box.new w3 _ _ _ _ _).keep b4); have LA4 := hd (ex_below b4); have TB4 := hd t4; have LO4 := hd (sz_lt (w := w3) b4.size); have LO5 := hd (ex_lt b4); clear x0 x1 x2 x3; obtain ⟨x0, x1, x2, x3⟩ := XN4.out; obtain ⟨y0, y1, y2, y3⟩ := XA4.out; have hl4 := XN4.out.lt; have hl5 := XA4.out.lt; clear b4 t4)
      | (go_at_call 11; refine (copy_any d _ _ n (HN.out.later B2.out)).mono ?_; intro e w3 h3; obtain ⟨v3, rfl, t3, b3⟩ := h3; obtain ⟨lf3, PA3, np3, pc3, TA3, nt3, tc3, KA3, nk3, kc3, rfl⟩ := (t3.at_ (B := w3.heap.size) (fun b hb => hb.2)).val; have B3 := hd (B2.out.trans (b3.mono B2.out.size)); have XN3 := hd (XN2.out.keep b3); have TA3 := hd t3; have LO3 := hd b3.size; have LO2 := hd B2.out.size; have LO1 := hd XN2.out.lt; clear x0 x1 x2 x3; obtain ⟨x0, x1, x2, x3⟩ := XN3.out; have hl3 := XN3.out.lt; clear b3 t3)
      | (go_at_call 10; refine (HFW d _ _ (HN.out.later B1.out)).out.mono ?_; rintro e w2 ⟨rfl, b2⟩; have B2 := hd (B1.out.trans (b2.mono B1.out.size)); have XN2 := hd (XN1.out.keep b2); clear x0 x1 x2 x3; obtain ⟨x0, x1, x2, x3⟩ := XN2.out; clear b2)
      | (go_at_call 9; refine HL.out.mono ?_; rintro e w1 ⟨rfl, b1⟩; have XN1 := hd ((Box.new w _ _ _ _ _).keep b1); obtain ⟨x0, x1, x2, x3⟩ := XN1.out; have B1 := hd (HB.out.trans (b1.mono HB.out.size)); clear b1))
    go_ret
    exact ⟨rfl, B10.out⟩

end Go.Proofs.Ytkbggbkcchndeaa
