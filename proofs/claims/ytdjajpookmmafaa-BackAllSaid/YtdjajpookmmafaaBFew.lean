/- The document's Few of operations and of selections. -/
import Derived.Test.YtdjajpookmmafaaBVars
namespace Go.Proofs.Ytdjajpookmmafaa
open Go.RowKit

def fewS (s : Sl) : Bool := decide (s.a.1.length ≤ 60) && decide (s.f.1.length ≤ 60)
def fewO (a : OpP) : Bool := decide (a.q.length ≤ 60) && decide (a.t.length ≤ 60) && decide (a.x.length ≤ 100) && decide (a.o.length ≤ 40) && decide (a.w.length ≤ 40) && fewB 100 a.n && fewS a.f && fewS a.g && fewB 100 (.mk false a.o [] []) && fewB 100 (.mk false a.w [] [])
set_option maxRecDepth 4000 in
theorem fewO_tiny {a : OpP} (h : fewO a = true) : Tiny a := by
  simp only [fewO, fewS, Bool.and_eq_true, decide_eq_true_iff] at h
  obtain ⟨⟨⟨⟨⟨⟨⟨⟨⟨h1, h2⟩, h3⟩, h4⟩, h5⟩, h6⟩, h7, h8⟩, h9, h10⟩, h11⟩, h12⟩ := h
  exact ⟨h1, h2, h3, h4, h5, h7, h8, h9, h10⟩
set_option maxRecDepth 4000 in
theorem le_yes {n m : Nat} (h : n ≤ m) : decide ((n : Int) ≤ (m : Int)) = true := decide_eq_true (by omega)
set_option maxRecDepth 4000 in
theorem le_no {n m : Nat} (h : ¬ n ≤ m) : decide ((n : Int) ≤ (m : Int)) = false := decide_eq_false (by omega)

set_option maxRecDepth 4000 in
set_option maxHeartbeats 2000000 in
theorem fewsel_any (w : World) (si : Bool) (A B : Option Addr) (n c m d : Nat) (x y : Int) (s : Sl) (h : SelA w si A n c x B m d y s) :
    Calls Try.prog 25 #[.agg #[.bool si, .slice A n c, .int .i64 x, .slice B m d, .int .i64 y]] w (Still (.bool (fewS s)) w) := by
  obtain ⟨_, _, _, hn, hm, _, _, m1, m2, _, _⟩ := h
  unfold fewS
  rw [hn, hm]
  clear hn hm
  by_cases h1 : n ≤ 60
  · by_cases h2 : m ≤ 60
    · have e1 : decide ((n : Int) ≤ 60) = true := le_yes h1
      have e2 : decide ((m : Int) ≤ 60) = true := le_yes h2
      rw [decide_eq_true h1, decide_eq_true h2]
      clear h1 h2
      go_enter Try.func25, Try.ntmps25
      go_wp2
      go_ret
      exact ⟨rfl, new_below _ _⟩
    · have e1 : decide ((n : Int) ≤ 60) = true := le_yes h1
      have e2 : decide ((m : Int) ≤ 60) = false := le_no h2
      rw [decide_eq_true h1, decide_eq_false h2]
      clear h1 h2
      go_enter Try.func25, Try.ntmps25
      go_wp2
      go_ret
      exact ⟨rfl, new_below _ _⟩
  · have e1 : decide ((n : Int) ≤ 60) = false := le_no h1
    rw [decide_eq_false h1]
    clear h1
    go_enter Try.func25, Try.ntmps25
    go_wp2
    go_ret
    exact ⟨rfl, new_below _ _⟩

set_option maxRecDepth 4000 in
theorem fn_at {W : World} {c : OC} {a : OpP} {E : Bool} (h : OkA W c a) (hs : fewB 100 a.n = E) : Calls Try.prog 23 #[.agg #[.bool c.lf, .slice c.P c.np c.pc, .slice c.X c.nt c.tc, .slice c.K c.nk c.kc], .int .i64 100] W (Still (.bool E) W) := by
  obtain ⟨d, h1⟩ := h.hn
  subst hs
  exact few_any d W _ _ 100 (by unfold In64; omega) h1
set_option maxRecDepth 4000 in
theorem fo_at {W : World} {c : OC} {a : OpP} {E : Bool} (h : OkA W c a) (hs : fewB 100 (.mk false a.o [] []) = E) : Calls Try.prog 23 #[.agg #[.bool false, .slice c.O c.no c.co, .slice none 0 0, .slice none 0 0], .int .i64 100] W (Still (.bool E) W) := by
  subst hs
  exact few_any 1 W _ _ 100 (by unfold In64; omega) (NodeAt.shut h.hno.symm rfl rfl h.ho (VL.nil _ _ _) ⟨h.hwo, by rw [h.hno]; exact h.hmo, by simp, by simp, by rw [h.hno]; exact h.hco, by simp, by simp⟩ (fun k m h => by simp at h))
set_option maxRecDepth 4000 in
theorem fw_at {W : World} {c : OC} {a : OpP} {E : Bool} (h : OkA W c a) (hs : fewB 100 (.mk false a.w [] []) = E) : Calls Try.prog 23 #[.agg #[.bool false, .slice c.W c.nw c.cw, .slice none 0 0, .slice none 0 0], .int .i64 100] W (Still (.bool E) W) := by
  subst hs
  exact few_any 1 W _ _ 100 (by unfold In64; omega) (NodeAt.shut h.hnw.symm rfl rfl h.hw (VL.nil _ _ _) ⟨h.hww, by rw [h.hnw]; exact h.hmw, by simp, by simp, by rw [h.hnw]; exact h.hcw, by simp, by simp⟩ (fun k m h => by simp at h))
set_option maxRecDepth 4000 in
theorem ff_at {W : World} {c : OC} {a : OpP} {E : Bool} (h : OkA W c a) (hs : fewS a.f = E) : Calls Try.prog 25 #[.agg #[.bool c.fi, .slice c.F1 c.f1 c.d1, .int .i64 c.fo, .slice c.F2 c.f2 c.d2, .int .i64 c.fp]] W (Still (.bool E) W) := by
  subst hs
  exact fewsel_any W _ _ _ _ _ _ _ _ _ _ h.hf
set_option maxRecDepth 4000 in
theorem fg_at {W : World} {c : OC} {a : OpP} {E : Bool} (h : OkA W c a) (hs : fewS a.g = E) : Calls Try.prog 25 #[.agg #[.bool c.gi, .slice c.G1 c.g1 c.e1, .int .i64 c.go, .slice c.G2 c.g2 c.e2, .int .i64 c.gp]] W (Still (.bool E) W) := by
  subst hs
  exact fewsel_any W _ _ _ _ _ _ _ _ _ _ h.hg

set_option maxRecDepth 100000 in
set_option maxHeartbeats 4000000 in
theorem bfew_0 (w : World) (c : OC) (a : OpP) (ha : OkA w c a)  (hq : decide (c.lq ≤ 60) = false) : Calls Try.prog 10 #[.agg c.row] w (Still (.bool false) w) := by
  have hb0 := new_below w (.cells c.row 35)
  obtain ⟨W0, hW⟩ : ∃ W0, w.alloc (.cells c.row 35) = W0 := ⟨_, rfl⟩
  have e1 := VarO.new w c
  rw [hW] at hb0 e1
  have HKA := hd (fun W (h : Below W0.heap.size W0 W) => e1.keep h)
  have HOA := hd (fun W (h : Below W0.heap.size W0 W) => (ha.later hb0).later h)
  have HW := hd hW
  have HBE := hd hb0
  have HBc := hd (Below.refl W0.heap.size W0)
  have m1 := ha.hmq
  have m2 := ha.hmt
  have m3 := ha.hmx
  have m4 := ha.hmo
  have m5 := ha.hmw
  have eq : decide ((c.lq : Int) ≤ 60) = false := le_no (of_decide_eq_false hq)
  clear hq
  have uq0 := (HKA.out _ HBc.out).cq
  clear hW hb0 e1 ha
  go_enter Try.func10, Try.ntmps10
  go_upto_region 1 with fail
  rw [HW.out]
  go_wp2_with fail
  go_ret
  exact ⟨rfl, HBE.out.trans (HBc.out.mono HBE.out.size)⟩
set_option maxRecDepth 100000 in
set_option maxHeartbeats 4000000 in
theorem bfew_1 (w : World) (c : OC) (a : OpP) (ha : OkA w c a) (hq : decide (c.lq ≤ 60) = true) (ht : decide (c.lt ≤ 60) = false) : Calls Try.prog 10 #[.agg c.row] w (Still (.bool false) w) := by
  have hb0 := new_below w (.cells c.row 35)
  obtain ⟨W0, hW⟩ : ∃ W0, w.alloc (.cells c.row 35) = W0 := ⟨_, rfl⟩
  have e1 := VarO.new w c
  rw [hW] at hb0 e1
  have HKA := hd (fun W (h : Below W0.heap.size W0 W) => e1.keep h)
  have HOA := hd (fun W (h : Below W0.heap.size W0 W) => (ha.later hb0).later h)
  have HW := hd hW
  have HBE := hd hb0
  have HBc := hd (Below.refl W0.heap.size W0)
  have m1 := ha.hmq
  have m2 := ha.hmt
  have m3 := ha.hmx
  have m4 := ha.hmo
  have m5 := ha.hmw
  have eq : decide ((c.lq : Int) ≤ 60) = true := le_yes (of_decide_eq_true hq)
  clear hq
  have uq0 := (HKA.out _ HBc.out).cq
  have et : decide ((c.lt : Int) ≤ 60) = false := le_no (of_decide_eq_false ht)
  clear ht
  have ut0 := (HKA.out _ HBc.out).ct
  clear hW hb0 e1 ha
  go_enter Try.func10, Try.ntmps10
  go_upto_region 1 with fail
  rw [HW.out]
  go_wp2_with fail
  go_ret
  exact ⟨rfl, HBE.out.trans (HBc.out.mono HBE.out.size)⟩
set_option maxRecDepth 100000 in
set_option maxHeartbeats 4000000 in
theorem bfew_2 (w : World) (c : OC) (a : OpP) (ha : OkA w c a) (hq : decide (c.lq ≤ 60) = true) (ht : decide (c.lt ≤ 60) = true) (hx : decide (c.nx ≤ 100) = false) : Calls Try.prog 10 #[.agg c.row] w (Still (.bool false) w) := by
  have hb0 := new_below w (.cells c.row 35)
  obtain ⟨W0, hW⟩ : ∃ W0, w.alloc (.cells c.row 35) = W0 := ⟨_, rfl⟩
  have e1 := VarO.new w c
  rw [hW] at hb0 e1
  have HKA := hd (fun W (h : Below W0.heap.size W0 W) => e1.keep h)
  have HOA := hd (fun W (h : Below W0.heap.size W0 W) => (ha.later hb0).later h)
  have HW := hd hW
  have HBE := hd hb0
  have HBc := hd (Below.refl W0.heap.size W0)
  have m1 := ha.hmq
  have m2 := ha.hmt
  have m3 := ha.hmx
  have m4 := ha.hmo
  have m5 := ha.hmw
  have eq : decide ((c.lq : Int) ≤ 60) = true := le_yes (of_decide_eq_true hq)
  clear hq
  have uq0 := (HKA.out _ HBc.out).cq
  have et : decide ((c.lt : Int) ≤ 60) = true := le_yes (of_decide_eq_true ht)
  clear ht
  have ut0 := (HKA.out _ HBc.out).ct
  have ex : decide ((c.nx : Int) ≤ 100) = false := le_no (of_decide_eq_false hx)
  clear hx
  have ux0 := (HKA.out _ HBc.out).cx
  clear hW hb0 e1 ha
  go_enter Try.func10, Try.ntmps10
  go_upto_region 1 with fail
  rw [HW.out]
  go_wp2_with fail
  go_ret
  exact ⟨rfl, HBE.out.trans (HBc.out.mono HBE.out.size)⟩
set_option maxRecDepth 100000 in
set_option maxHeartbeats 4000000 in
theorem bfew_3 (w : World) (c : OC) (a : OpP) (ha : OkA w c a) (hq : decide (c.lq ≤ 60) = true) (ht : decide (c.lt ≤ 60) = true) (hx : decide (c.nx ≤ 100) = true) (ho : decide (c.no ≤ 40) = false) : Calls Try.prog 10 #[.agg c.row] w (Still (.bool false) w) := by
  have hb0 := new_below w (.cells c.row 35)
  obtain ⟨W0, hW⟩ : ∃ W0, w.alloc (.cells c.row 35) = W0 := ⟨_, rfl⟩
  have e1 := VarO.new w c
  rw [hW] at hb0 e1
  have HKA := hd (fun W (h : Below W0.heap.size W0 W) => e1.keep h)
  have HOA := hd (fun W (h : Below W0.heap.size W0 W) => (ha.later hb0).later h)
  have HW := hd hW
  have HBE := hd hb0
  have HBc := hd (Below.refl W0.heap.size W0)
  have m1 := ha.hmq
  have m2 := ha.hmt
  have m3 := ha.hmx
  have m4 := ha.hmo
  have m5 := ha.hmw
  have eq : decide ((c.lq : Int) ≤ 60) = true := le_yes (of_decide_eq_true hq)
  clear hq
  have uq0 := (HKA.out _ HBc.out).cq
  have et : decide ((c.lt : Int) ≤ 60) = true := le_yes (of_decide_eq_true ht)
  clear ht
  have ut0 := (HKA.out _ HBc.out).ct
  have ex : decide ((c.nx : Int) ≤ 100) = true := le_yes (of_decide_eq_true hx)
  clear hx
  have ux0 := (HKA.out _ HBc.out).cx
  have eo : decide ((c.no : Int) ≤ 40) = false := le_no (of_decide_eq_false ho)
  clear ho
  have uo0 := (HKA.out _ HBc.out).co
  clear hW hb0 e1 ha
  go_enter Try.func10, Try.ntmps10
  go_upto_region 1 with fail
  rw [HW.out]
  go_wp2_with fail
  go_ret
  exact ⟨rfl, HBE.out.trans (HBc.out.mono HBE.out.size)⟩
set_option maxRecDepth 100000 in
set_option maxHeartbeats 4000000 in
theorem bfew_4 (w : World) (c : OC) (a : OpP) (ha : OkA w c a) (hq : decide (c.lq ≤ 60) = true) (ht : decide (c.lt ≤ 60) = true) (hx : decide (c.nx ≤ 100) = true) (ho : decide (c.no ≤ 40) = true) (hw : decide (c.nw ≤ 40) = false) : Calls Try.prog 10 #[.agg c.row] w (Still (.bool false) w) := by
  have hb0 := new_below w (.cells c.row 35)
  obtain ⟨W0, hW⟩ : ∃ W0, w.alloc (.cells c.row 35) = W0 := ⟨_, rfl⟩
  have e1 := VarO.new w c
  rw [hW] at hb0 e1
  have HKA := hd (fun W (h : Below W0.heap.size W0 W) => e1.keep h)
  have HOA := hd (fun W (h : Below W0.heap.size W0 W) => (ha.later hb0).later h)
  have HW := hd hW
  have HBE := hd hb0
  have HBc := hd (Below.refl W0.heap.size W0)
  have m1 := ha.hmq
  have m2 := ha.hmt
  have m3 := ha.hmx
  have m4 := ha.hmo
  have m5 := ha.hmw
  have eq : decide ((c.lq : Int) ≤ 60) = true := le_yes (of_decide_eq_true hq)
  clear hq
  have uq0 := (HKA.out _ HBc.out).cq
  have et : decide ((c.lt : Int) ≤ 60) = true := le_yes (of_decide_eq_true ht)
  clear ht
  have ut0 := (HKA.out _ HBc.out).ct
  have ex : decide ((c.nx : Int) ≤ 100) = true := le_yes (of_decide_eq_true hx)
  clear hx
  have ux0 := (HKA.out _ HBc.out).cx
  have eo : decide ((c.no : Int) ≤ 40) = true := le_yes (of_decide_eq_true ho)
  clear ho
  have uo0 := (HKA.out _ HBc.out).co
  have ew : decide ((c.nw : Int) ≤ 40) = false := le_no (of_decide_eq_false hw)
  clear hw
  have uw0 := (HKA.out _ HBc.out).cw
  clear hW hb0 e1 ha
  go_enter Try.func10, Try.ntmps10
  go_upto_region 1 with fail
  rw [HW.out]
  go_wp2_with fail
  go_ret
  exact ⟨rfl, HBE.out.trans (HBc.out.mono HBE.out.size)⟩
set_option maxRecDepth 100000 in
set_option maxHeartbeats 4000000 in
theorem bfew_5 (w : World) (c : OC) (a : OpP) (ha : OkA w c a) (hq : decide (c.lq ≤ 60) = true) (ht : decide (c.lt ≤ 60) = true) (hx : decide (c.nx ≤ 100) = true) (ho : decide (c.no ≤ 40) = true) (hw : decide (c.nw ≤ 40) = true) (hn : fewB 100 a.n = false) : Calls Try.prog 10 #[.agg c.row] w (Still (.bool false) w) := by
  have hb0 := new_below w (.cells c.row 35)
  obtain ⟨W0, hW⟩ : ∃ W0, w.alloc (.cells c.row 35) = W0 := ⟨_, rfl⟩
  have e1 := VarO.new w c
  rw [hW] at hb0 e1
  have HKA := hd (fun W (h : Below W0.heap.size W0 W) => e1.keep h)
  have HOA := hd (fun W (h : Below W0.heap.size W0 W) => (ha.later hb0).later h)
  have HW := hd hW
  have HBE := hd hb0
  have HBc := hd (Below.refl W0.heap.size W0)
  have m1 := ha.hmq
  have m2 := ha.hmt
  have m3 := ha.hmx
  have m4 := ha.hmo
  have m5 := ha.hmw
  have eq : decide ((c.lq : Int) ≤ 60) = true := le_yes (of_decide_eq_true hq)
  clear hq
  have uq0 := (HKA.out _ HBc.out).cq
  have et : decide ((c.lt : Int) ≤ 60) = true := le_yes (of_decide_eq_true ht)
  clear ht
  have ut0 := (HKA.out _ HBc.out).ct
  have ex : decide ((c.nx : Int) ≤ 100) = true := le_yes (of_decide_eq_true hx)
  clear hx
  have ux0 := (HKA.out _ HBc.out).cx
  have eo : decide ((c.no : Int) ≤ 40) = true := le_yes (of_decide_eq_true ho)
  clear ho
  have uo0 := (HKA.out _ HBc.out).co
  have ew : decide ((c.nw : Int) ≤ 40) = true := le_yes (of_decide_eq_true hw)
  clear hw
  have uw0 := (HKA.out _ HBc.out).cw
  have Hn := hd hn
  clear hn
  obtain ⟨un0, un1, un2, un3⟩ := (HKA.out _ HBc.out).cn
  clear hW hb0 e1 ha
  go_enter Try.func10, Try.ntmps10
  go_upto_region 1 with fail
  rw [HW.out]
  go_wp2_with (first
    | (go_at_call 23; have _g := Hn; refine Calls.mono (fn_at (HOA.out _ HBc.out) Hn.out) ?_; clear Hn; rintro e w9 ⟨rfl, b9⟩; have HBc := hd (step_b HBc.out b9); clear b9 uq0 ut0 ux0 uo0 uw0 un0 un1 un2 un3; obtain ⟨uf0, uf1, uf2, uf3, uf4⟩ := (HKA.out _ HBc.out).cf))
  go_ret
  exact ⟨rfl, HBE.out.trans (HBc.out.mono HBE.out.size)⟩
set_option maxRecDepth 100000 in
set_option maxHeartbeats 4000000 in
theorem bfew_6 (w : World) (c : OC) (a : OpP) (ha : OkA w c a) (hq : decide (c.lq ≤ 60) = true) (ht : decide (c.lt ≤ 60) = true) (hx : decide (c.nx ≤ 100) = true) (ho : decide (c.no ≤ 40) = true) (hw : decide (c.nw ≤ 40) = true) (hn : fewB 100 a.n = true) (hf : fewS a.f = false) : Calls Try.prog 10 #[.agg c.row] w (Still (.bool false) w) := by
  have hb0 := new_below w (.cells c.row 35)
  obtain ⟨W0, hW⟩ : ∃ W0, w.alloc (.cells c.row 35) = W0 := ⟨_, rfl⟩
  have e1 := VarO.new w c
  rw [hW] at hb0 e1
  have HKA := hd (fun W (h : Below W0.heap.size W0 W) => e1.keep h)
  have HOA := hd (fun W (h : Below W0.heap.size W0 W) => (ha.later hb0).later h)
  have HW := hd hW
  have HBE := hd hb0
  have HBc := hd (Below.refl W0.heap.size W0)
  have m1 := ha.hmq
  have m2 := ha.hmt
  have m3 := ha.hmx
  have m4 := ha.hmo
  have m5 := ha.hmw
  have eq : decide ((c.lq : Int) ≤ 60) = true := le_yes (of_decide_eq_true hq)
  clear hq
  have uq0 := (HKA.out _ HBc.out).cq
  have et : decide ((c.lt : Int) ≤ 60) = true := le_yes (of_decide_eq_true ht)
  clear ht
  have ut0 := (HKA.out _ HBc.out).ct
  have ex : decide ((c.nx : Int) ≤ 100) = true := le_yes (of_decide_eq_true hx)
  clear hx
  have ux0 := (HKA.out _ HBc.out).cx
  have eo : decide ((c.no : Int) ≤ 40) = true := le_yes (of_decide_eq_true ho)
  clear ho
  have uo0 := (HKA.out _ HBc.out).co
  have ew : decide ((c.nw : Int) ≤ 40) = true := le_yes (of_decide_eq_true hw)
  clear hw
  have uw0 := (HKA.out _ HBc.out).cw
  have Hn := hd hn
  clear hn
  have Hf := hd hf
  clear hf
  obtain ⟨un0, un1, un2, un3⟩ := (HKA.out _ HBc.out).cn
  clear hW hb0 e1 ha
  go_enter Try.func10, Try.ntmps10
  go_upto_region 1 with fail
  rw [HW.out]
  go_wp2_with (first
    | (go_at_call 23; have _g := Hn; refine Calls.mono (fn_at (HOA.out _ HBc.out) Hn.out) ?_; clear Hn; rintro e w9 ⟨rfl, b9⟩; have HBc := hd (step_b HBc.out b9); clear b9 uq0 ut0 ux0 uo0 uw0 un0 un1 un2 un3; obtain ⟨uf0, uf1, uf2, uf3, uf4⟩ := (HKA.out _ HBc.out).cf)
    | (go_at_call 25; have _g := Hf; refine Calls.mono (ff_at (HOA.out _ HBc.out) Hf.out) ?_; clear Hf; rintro e w9 ⟨rfl, b9⟩; have HBc := hd (step_b HBc.out b9); clear b9 uf0 uf1 uf2 uf3 uf4; obtain ⟨ug0, ug1, ug2, ug3, ug4⟩ := (HKA.out _ HBc.out).cg))
  go_ret
  exact ⟨rfl, HBE.out.trans (HBc.out.mono HBE.out.size)⟩
set_option maxRecDepth 100000 in
set_option maxHeartbeats 4000000 in
theorem bfew_7 (w : World) (c : OC) (a : OpP) (ha : OkA w c a) (hq : decide (c.lq ≤ 60) = true) (ht : decide (c.lt ≤ 60) = true) (hx : decide (c.nx ≤ 100) = true) (ho : decide (c.no ≤ 40) = true) (hw : decide (c.nw ≤ 40) = true) (hn : fewB 100 a.n = true) (hf : fewS a.f = true) (hg : fewS a.g = false) : Calls Try.prog 10 #[.agg c.row] w (Still (.bool false) w) := by
  have hb0 := new_below w (.cells c.row 35)
  obtain ⟨W0, hW⟩ : ∃ W0, w.alloc (.cells c.row 35) = W0 := ⟨_, rfl⟩
  have e1 := VarO.new w c
  rw [hW] at hb0 e1
  have HKA := hd (fun W (h : Below W0.heap.size W0 W) => e1.keep h)
  have HOA := hd (fun W (h : Below W0.heap.size W0 W) => (ha.later hb0).later h)
  have HW := hd hW
  have HBE := hd hb0
  have HBc := hd (Below.refl W0.heap.size W0)
  have m1 := ha.hmq
  have m2 := ha.hmt
  have m3 := ha.hmx
  have m4 := ha.hmo
  have m5 := ha.hmw
  have eq : decide ((c.lq : Int) ≤ 60) = true := le_yes (of_decide_eq_true hq)
  clear hq
  have uq0 := (HKA.out _ HBc.out).cq
  have et : decide ((c.lt : Int) ≤ 60) = true := le_yes (of_decide_eq_true ht)
  clear ht
  have ut0 := (HKA.out _ HBc.out).ct
  have ex : decide ((c.nx : Int) ≤ 100) = true := le_yes (of_decide_eq_true hx)
  clear hx
  have ux0 := (HKA.out _ HBc.out).cx
  have eo : decide ((c.no : Int) ≤ 40) = true := le_yes (of_decide_eq_true ho)
  clear ho
  have uo0 := (HKA.out _ HBc.out).co
  have ew : decide ((c.nw : Int) ≤ 40) = true := le_yes (of_decide_eq_true hw)
  clear hw
  have uw0 := (HKA.out _ HBc.out).cw
  have Hn := hd hn
  clear hn
  have Hf := hd hf
  clear hf
  have Hg := hd hg
  clear hg
  obtain ⟨un0, un1, un2, un3⟩ := (HKA.out _ HBc.out).cn
  clear hW hb0 e1 ha
  go_enter Try.func10, Try.ntmps10
  go_upto_region 1 with fail
  rw [HW.out]
  go_wp2_with (first
    | (go_at_call 23; have _g := Hn; refine Calls.mono (fn_at (HOA.out _ HBc.out) Hn.out) ?_; clear Hn; rintro e w9 ⟨rfl, b9⟩; have HBc := hd (step_b HBc.out b9); clear b9 uq0 ut0 ux0 uo0 uw0 un0 un1 un2 un3; obtain ⟨uf0, uf1, uf2, uf3, uf4⟩ := (HKA.out _ HBc.out).cf)
    | (go_at_call 25; have _g := Hf; refine Calls.mono (ff_at (HOA.out _ HBc.out) Hf.out) ?_; clear Hf; rintro e w9 ⟨rfl, b9⟩; have HBc := hd (step_b HBc.out b9); clear b9 uf0 uf1 uf2 uf3 uf4; obtain ⟨ug0, ug1, ug2, ug3, ug4⟩ := (HKA.out _ HBc.out).cg)
    | (go_at_call 25; have _g := Hg; refine Calls.mono (fg_at (HOA.out _ HBc.out) Hg.out) ?_; clear Hg; rintro e w9 ⟨rfl, b9⟩; have HBc := hd (step_b HBc.out b9); clear b9 ug0 ug1 ug2 ug3 ug4; have uo0 := (HKA.out _ HBc.out).co))
  go_ret
  exact ⟨rfl, HBE.out.trans (HBc.out.mono HBE.out.size)⟩
set_option maxRecDepth 100000 in
set_option maxHeartbeats 4000000 in
theorem bfew_8 (w : World) (c : OC) (a : OpP) (ha : OkA w c a) (hq : decide (c.lq ≤ 60) = true) (ht : decide (c.lt ≤ 60) = true) (hx : decide (c.nx ≤ 100) = true) (ho : decide (c.no ≤ 40) = true) (hw : decide (c.nw ≤ 40) = true) (hn : fewB 100 a.n = true) (hf : fewS a.f = true) (hg : fewS a.g = true) (ho2 : fewB 100 (.mk false a.o [] []) = false) : Calls Try.prog 10 #[.agg c.row] w (Still (.bool false) w) := by
  have hb0 := new_below w (.cells c.row 35)
  obtain ⟨W0, hW⟩ : ∃ W0, w.alloc (.cells c.row 35) = W0 := ⟨_, rfl⟩
  have e1 := VarO.new w c
  rw [hW] at hb0 e1
  have HKA := hd (fun W (h : Below W0.heap.size W0 W) => e1.keep h)
  have HOA := hd (fun W (h : Below W0.heap.size W0 W) => (ha.later hb0).later h)
  have HW := hd hW
  have HBE := hd hb0
  have HBc := hd (Below.refl W0.heap.size W0)
  have m1 := ha.hmq
  have m2 := ha.hmt
  have m3 := ha.hmx
  have m4 := ha.hmo
  have m5 := ha.hmw
  have eq : decide ((c.lq : Int) ≤ 60) = true := le_yes (of_decide_eq_true hq)
  clear hq
  have uq0 := (HKA.out _ HBc.out).cq
  have et : decide ((c.lt : Int) ≤ 60) = true := le_yes (of_decide_eq_true ht)
  clear ht
  have ut0 := (HKA.out _ HBc.out).ct
  have ex : decide ((c.nx : Int) ≤ 100) = true := le_yes (of_decide_eq_true hx)
  clear hx
  have ux0 := (HKA.out _ HBc.out).cx
  have eo : decide ((c.no : Int) ≤ 40) = true := le_yes (of_decide_eq_true ho)
  clear ho
  have uo0 := (HKA.out _ HBc.out).co
  have ew : decide ((c.nw : Int) ≤ 40) = true := le_yes (of_decide_eq_true hw)
  clear hw
  have uw0 := (HKA.out _ HBc.out).cw
  have Hn := hd hn
  clear hn
  have Hf := hd hf
  clear hf
  have Hg := hd hg
  clear hg
  have Ho2 := hd ho2
  clear ho2
  obtain ⟨un0, un1, un2, un3⟩ := (HKA.out _ HBc.out).cn
  clear hW hb0 e1 ha
  go_enter Try.func10, Try.ntmps10
  go_upto_region 1 with fail
  rw [HW.out]
  go_wp2_with (first
    | (go_at_call 23; have _g := Hn; refine Calls.mono (fn_at (HOA.out _ HBc.out) Hn.out) ?_; clear Hn; rintro e w9 ⟨rfl, b9⟩; have HBc := hd (step_b HBc.out b9); clear b9 uq0 ut0 ux0 uo0 uw0 un0 un1 un2 un3; obtain ⟨uf0, uf1, uf2, uf3, uf4⟩ := (HKA.out _ HBc.out).cf)
    | (go_at_call 25; have _g := Hf; refine Calls.mono (ff_at (HOA.out _ HBc.out) Hf.out) ?_; clear Hf; rintro e w9 ⟨rfl, b9⟩; have HBc := hd (step_b HBc.out b9); clear b9 uf0 uf1 uf2 uf3 uf4; obtain ⟨ug0, ug1, ug2, ug3, ug4⟩ := (HKA.out _ HBc.out).cg)
    | (go_at_call 25; have _g := Hg; refine Calls.mono (fg_at (HOA.out _ HBc.out) Hg.out) ?_; clear Hg; rintro e w9 ⟨rfl, b9⟩; have HBc := hd (step_b HBc.out b9); clear b9 ug0 ug1 ug2 ug3 ug4; have uo0 := (HKA.out _ HBc.out).co)
    | (go_at_call 23; have _g := Ho2; refine Calls.mono (fo_at (HOA.out _ HBc.out) Ho2.out) ?_; clear Ho2; rintro e w9 ⟨rfl, b9⟩; have HBc := hd (step_b HBc.out b9); clear b9 uo0; have uw0 := (HKA.out _ HBc.out).cw))
  go_ret
  exact ⟨rfl, HBE.out.trans (HBc.out.mono HBE.out.size)⟩
set_option maxRecDepth 100000 in
set_option maxHeartbeats 4000000 in
theorem bfew_9 (w : World) (c : OC) (a : OpP) (ha : OkA w c a) (hq : decide (c.lq ≤ 60) = true) (ht : decide (c.lt ≤ 60) = true) (hx : decide (c.nx ≤ 100) = true) (ho : decide (c.no ≤ 40) = true) (hw : decide (c.nw ≤ 40) = true) (hn : fewB 100 a.n = true) (hf : fewS a.f = true) (hg : fewS a.g = true) (ho2 : fewB 100 (.mk false a.o [] []) = true) (hw2 : fewB 100 (.mk false a.w [] []) = false) : Calls Try.prog 10 #[.agg c.row] w (Still (.bool false) w) := by
  have hb0 := new_below w (.cells c.row 35)
  obtain ⟨W0, hW⟩ : ∃ W0, w.alloc (.cells c.row 35) = W0 := ⟨_, rfl⟩
  have e1 := VarO.new w c
  rw [hW] at hb0 e1
  have HKA := hd (fun W (h : Below W0.heap.size W0 W) => e1.keep h)
  have HOA := hd (fun W (h : Below W0.heap.size W0 W) => (ha.later hb0).later h)
  have HW := hd hW
  have HBE := hd hb0
  have HBc := hd (Below.refl W0.heap.size W0)
  have m1 := ha.hmq
  have m2 := ha.hmt
  have m3 := ha.hmx
  have m4 := ha.hmo
  have m5 := ha.hmw
  have eq : decide ((c.lq : Int) ≤ 60) = true := le_yes (of_decide_eq_true hq)
  clear hq
  have uq0 := (HKA.out _ HBc.out).cq
  have et : decide ((c.lt : Int) ≤ 60) = true := le_yes (of_decide_eq_true ht)
  clear ht
  have ut0 := (HKA.out _ HBc.out).ct
  have ex : decide ((c.nx : Int) ≤ 100) = true := le_yes (of_decide_eq_true hx)
  clear hx
  have ux0 := (HKA.out _ HBc.out).cx
  have eo : decide ((c.no : Int) ≤ 40) = true := le_yes (of_decide_eq_true ho)
  clear ho
  have uo0 := (HKA.out _ HBc.out).co
  have ew : decide ((c.nw : Int) ≤ 40) = true := le_yes (of_decide_eq_true hw)
  clear hw
  have uw0 := (HKA.out _ HBc.out).cw
  have Hn := hd hn
  clear hn
  have Hf := hd hf
  clear hf
  have Hg := hd hg
  clear hg
  have Ho2 := hd ho2
  clear ho2
  have Hw2 := hd hw2
  clear hw2
  obtain ⟨un0, un1, un2, un3⟩ := (HKA.out _ HBc.out).cn
  clear hW hb0 e1 ha
  go_enter Try.func10, Try.ntmps10
  go_upto_region 1 with fail
  rw [HW.out]
  go_wp2_with (first
    | (go_at_call 23; have _g := Hn; refine Calls.mono (fn_at (HOA.out _ HBc.out) Hn.out) ?_; clear Hn; rintro e w9 ⟨rfl, b9⟩; have HBc := hd (step_b HBc.out b9); clear b9 uq0 ut0 ux0 uo0 uw0 un0 un1 un2 un3; obtain ⟨uf0, uf1, uf2, uf3, uf4⟩ := (HKA.out _ HBc.out).cf)
    | (go_at_call 25; have _g := Hf; refine Calls.mono (ff_at (HOA.out _ HBc.out) Hf.out) ?_; clear Hf; rintro e w9 ⟨rfl, b9⟩; have HBc := hd (step_b HBc.out b9); clear b9 uf0 uf1 uf2 uf3 uf4; obtain ⟨ug0, ug1, ug2, ug3, ug4⟩ := (HKA.out _ HBc.out).cg)
    | (go_at_call 25; have _g := Hg; refine Calls.mono (fg_at (HOA.out _ HBc.out) Hg.out) ?_; clear Hg; rintro e w9 ⟨rfl, b9⟩; have HBc := hd (step_b HBc.out b9); clear b9 ug0 ug1 ug2 ug3 ug4; have uo0 := (HKA.out _ HBc.out).co)
    | (go_at_call 23; have _g := Ho2; refine Calls.mono (fo_at (HOA.out _ HBc.out) Ho2.out) ?_; clear Ho2; rintro e w9 ⟨rfl, b9⟩; have HBc := hd (step_b HBc.out b9); clear b9 uo0; have uw0 := (HKA.out _ HBc.out).cw)
    | (go_at_call 23; have _g := Hw2; refine Calls.mono (fw_at (HOA.out _ HBc.out) Hw2.out) ?_; clear Hw2; rintro e w9 ⟨rfl, b9⟩; have HBc := hd (step_b HBc.out b9); clear b9 uw0))
  go_ret
  exact ⟨rfl, HBE.out.trans (HBc.out.mono HBE.out.size)⟩
set_option maxRecDepth 100000 in
set_option maxHeartbeats 4000000 in
theorem bfew_10 (w : World) (c : OC) (a : OpP) (ha : OkA w c a) (hq : decide (c.lq ≤ 60) = true) (ht : decide (c.lt ≤ 60) = true) (hx : decide (c.nx ≤ 100) = true) (ho : decide (c.no ≤ 40) = true) (hw : decide (c.nw ≤ 40) = true) (hn : fewB 100 a.n = true) (hf : fewS a.f = true) (hg : fewS a.g = true) (ho2 : fewB 100 (.mk false a.o [] []) = true) (hw2 : fewB 100 (.mk false a.w [] []) = true) : Calls Try.prog 10 #[.agg c.row] w (Still (.bool true) w) := by
  have hb0 := new_below w (.cells c.row 35)
  obtain ⟨W0, hW⟩ : ∃ W0, w.alloc (.cells c.row 35) = W0 := ⟨_, rfl⟩
  have e1 := VarO.new w c
  rw [hW] at hb0 e1
  have HKA := hd (fun W (h : Below W0.heap.size W0 W) => e1.keep h)
  have HOA := hd (fun W (h : Below W0.heap.size W0 W) => (ha.later hb0).later h)
  have HW := hd hW
  have HBE := hd hb0
  have HBc := hd (Below.refl W0.heap.size W0)
  have m1 := ha.hmq
  have m2 := ha.hmt
  have m3 := ha.hmx
  have m4 := ha.hmo
  have m5 := ha.hmw
  have eq : decide ((c.lq : Int) ≤ 60) = true := le_yes (of_decide_eq_true hq)
  clear hq
  have uq0 := (HKA.out _ HBc.out).cq
  have et : decide ((c.lt : Int) ≤ 60) = true := le_yes (of_decide_eq_true ht)
  clear ht
  have ut0 := (HKA.out _ HBc.out).ct
  have ex : decide ((c.nx : Int) ≤ 100) = true := le_yes (of_decide_eq_true hx)
  clear hx
  have ux0 := (HKA.out _ HBc.out).cx
  have eo : decide ((c.no : Int) ≤ 40) = true := le_yes (of_decide_eq_true ho)
  clear ho
  have uo0 := (HKA.out _ HBc.out).co
  have ew : decide ((c.nw : Int) ≤ 40) = true := le_yes (of_decide_eq_true hw)
  clear hw
  have uw0 := (HKA.out _ HBc.out).cw
  have Hn := hd hn
  clear hn
  have Hf := hd hf
  clear hf
  have Hg := hd hg
  clear hg
  have Ho2 := hd ho2
  clear ho2
  have Hw2 := hd hw2
  clear hw2
  obtain ⟨un0, un1, un2, un3⟩ := (HKA.out _ HBc.out).cn
  clear hW hb0 e1 ha
  go_enter Try.func10, Try.ntmps10
  go_upto_region 1 with fail
  rw [HW.out]
  go_wp2_with (first
    | (go_at_call 23; have _g := Hn; refine Calls.mono (fn_at (HOA.out _ HBc.out) Hn.out) ?_; clear Hn; rintro e w9 ⟨rfl, b9⟩; have HBc := hd (step_b HBc.out b9); clear b9 uq0 ut0 ux0 uo0 uw0 un0 un1 un2 un3; obtain ⟨uf0, uf1, uf2, uf3, uf4⟩ := (HKA.out _ HBc.out).cf)
    | (go_at_call 25; have _g := Hf; refine Calls.mono (ff_at (HOA.out _ HBc.out) Hf.out) ?_; clear Hf; rintro e w9 ⟨rfl, b9⟩; have HBc := hd (step_b HBc.out b9); clear b9 uf0 uf1 uf2 uf3 uf4; obtain ⟨ug0, ug1, ug2, ug3, ug4⟩ := (HKA.out _ HBc.out).cg)
    | (go_at_call 25; have _g := Hg; refine Calls.mono (fg_at (HOA.out _ HBc.out) Hg.out) ?_; clear Hg; rintro e w9 ⟨rfl, b9⟩; have HBc := hd (step_b HBc.out b9); clear b9 ug0 ug1 ug2 ug3 ug4; have uo0 := (HKA.out _ HBc.out).co)
    | (go_at_call 23; have _g := Ho2; refine Calls.mono (fo_at (HOA.out _ HBc.out) Ho2.out) ?_; clear Ho2; rintro e w9 ⟨rfl, b9⟩; have HBc := hd (step_b HBc.out b9); clear b9 uo0; have uw0 := (HKA.out _ HBc.out).cw)
    | (go_at_call 23; have _g := Hw2; refine Calls.mono (fw_at (HOA.out _ HBc.out) Hw2.out) ?_; clear Hw2; rintro e w9 ⟨rfl, b9⟩; have HBc := hd (step_b HBc.out b9); clear b9 uw0))
  go_ret
  exact ⟨rfl, HBE.out.trans (HBc.out.mono HBE.out.size)⟩
set_option maxRecDepth 4000 in
theorem few_at {w : World} {c : OC} {a : OpP} {E : Bool} (ha : OkA w c a) (hE : fewO a = E) : Calls Try.prog 10 #[.agg c.row] w (Still (.bool E) w) := by
  subst hE
  unfold fewO
  rw [ha.hlq, ha.hlt, ha.hnx, ha.hno, ha.hnw]
  cases hq : decide (c.lq ≤ 60)
  · have h := bfew_0 w c a ha hq
    simpa only [Bool.true_and, Bool.and_true, Bool.false_and, Bool.and_false, hq] using h
  cases ht : decide (c.lt ≤ 60)
  · have h := bfew_1 w c a ha hq ht
    simpa only [Bool.true_and, Bool.and_true, Bool.false_and, Bool.and_false, hq, ht] using h
  cases hx : decide (c.nx ≤ 100)
  · have h := bfew_2 w c a ha hq ht hx
    simpa only [Bool.true_and, Bool.and_true, Bool.false_and, Bool.and_false, hq, ht, hx] using h
  cases ho : decide (c.no ≤ 40)
  · have h := bfew_3 w c a ha hq ht hx ho
    simpa only [Bool.true_and, Bool.and_true, Bool.false_and, Bool.and_false, hq, ht, hx, ho] using h
  cases hw : decide (c.nw ≤ 40)
  · have h := bfew_4 w c a ha hq ht hx ho hw
    simpa only [Bool.true_and, Bool.and_true, Bool.false_and, Bool.and_false, hq, ht, hx, ho, hw] using h
  cases hn : fewB 100 a.n
  · have h := bfew_5 w c a ha hq ht hx ho hw hn
    simpa only [Bool.true_and, Bool.and_true, Bool.false_and, Bool.and_false, hq, ht, hx, ho, hw, hn] using h
  cases hf : fewS a.f
  · have h := bfew_6 w c a ha hq ht hx ho hw hn hf
    simpa only [Bool.true_and, Bool.and_true, Bool.false_and, Bool.and_false, hq, ht, hx, ho, hw, hn, hf] using h
  cases hg : fewS a.g
  · have h := bfew_7 w c a ha hq ht hx ho hw hn hf hg
    simpa only [Bool.true_and, Bool.and_true, Bool.false_and, Bool.and_false, hq, ht, hx, ho, hw, hn, hf, hg] using h
  cases ho2 : fewB 100 (.mk false a.o [] [])
  · have h := bfew_8 w c a ha hq ht hx ho hw hn hf hg ho2
    simpa only [Bool.true_and, Bool.and_true, Bool.false_and, Bool.and_false, hq, ht, hx, ho, hw, hn, hf, hg, ho2] using h
  cases hw2 : fewB 100 (.mk false a.w [] [])
  · have h := bfew_9 w c a ha hq ht hx ho hw hn hf hg ho2 hw2
    simpa only [Bool.true_and, Bool.and_true, Bool.false_and, Bool.and_false, hq, ht, hx, ho, hw, hn, hf, hg, ho2, hw2] using h
  have h := bfew_10 w c a ha hq ht hx ho hw hn hf hg ho2 hw2
  simpa only [Bool.true_and, Bool.and_true] using h

end Go.Proofs.Ytdjajpookmmafaa
