/- BackForm answers true. -/
import Derived.Test.YtdjajpookmmafaaBLive
import Derived.Test.YtdjajpookmmafaaBOpen
namespace Go.Proofs.Ytdjajpookmmafaa
open Go.RowKit

theorem form_bool {o : OpP} {b : Bool} (hk : kindB o.k = true) (h : fieldsO o = o ↔ b = true) : (formE o == 0) = b := by
  rw [formE_doc, hk, Bool.true_and]
  cases b
  · rw [if_neg (fun e => by have := h.1 (eqO_eq e); cases this)]; rfl
  · rw [if_pos (eqO_yes (h.2 rfl))]; rfl
set_option maxRecDepth 4000 in
theorem form_none {o : OpP} (hk : kindB o.k = false) : formE o = 1 := by rw [formE_doc, hk]; rfl
/-- A list of properties, a text, a node alone: as many as may come in. -/
structure PropsA (w : World) (A : Option Addr) (l : List Pr) (c : Nat) : Prop where
  wd : Wide l
  m : l.length ≤ 4398046511104
  c : l.length ≤ c
  q : PL w w.heap.size A l
set_option maxRecDepth 100000 in
set_option maxHeartbeats 8000000 in
theorem bforms_e0 (w : World) (k : Int) (hk64 : In64 k) (A : Option Addr) (p : List Int) (c : Nat) (hm : p.length ≤ 9223372036854775807) (hc : p.length ≤ c) (hi : InI p) (hp : IL w w.heap.size A p) (lf : Bool) (P X K : Option Addr) (np pc nt tc nk kc : Nat) (n : NT) (fd : Nat) (hn : NodeAt fd w w.heap.size (.agg #[.bool lf, .slice P np pc, .slice X nt tc, .slice K nk kc]) n) (B : Option Addr) (l : List Pr) (d : Nat) (hl : PropsA w B l d) (D : Option Addr) (x : List Int) (e : Nat) (hx : x.length ≤ 35184372088832) (hxe : x.length ≤ e) (hq : VL w w.heap.size D (rv x)) (h1 : p.length > 60) : Calls Try.prog 8 #[.int .i64 k, .slice A p.length c, .agg #[.bool lf, .slice P np pc, .slice X nt tc, .slice K nk kc], .slice B l.length d, .slice D x.length e] w (AllTrue w) := by
  obtain ⟨lp, hlp⟩ : ∃ n, p.length = n := ⟨_, rfl⟩
  obtain ⟨ll, hll⟩ : ∃ n, l.length = n := ⟨_, rfl⟩
  obtain ⟨lx, hlx⟩ : ∃ n, x.length = n := ⟨_, rfl⟩
  have hb0 := new_below w (.cells #[.bool lf, .slice P np pc, .slice X nt tc, .slice K nk kc] 27)
  obtain ⟨W0, hW⟩ : ∃ W0, w.alloc (.cells #[.bool lf, .slice P np pc, .slice X nt tc, .slice K nk kc] 27) = W0 := ⟨_, rfl⟩
  have e1 : (w.alloc (.cells #[.bool lf, .slice P np pc, .slice X nt tc, .slice K nk kc] 27)).heap[w.heap.size]? = _ := heap_alloc_new _ _
  rw [hW] at hb0 e1
  have HC4 := hd (fun W (h : Below W0.heap.size W0 W) => blkCells (xkeep e1 h))
  have HP := hd (fun W (h : Below W0.heap.size W0 W) => (hp.later hb0).later h)
  have HN := hd (fun W (h : Below W0.heap.size W0 W) => (hn.later hb0).later h)
  have HL := hd (fun W (h : Below W0.heap.size W0 W) => (hl.q.later hb0).later h)
  have HX := hd (fun W (h : Below W0.heap.size W0 W) => (hq.later hb0).later h)
  have HW := hd hW
  have HBE := hd hb0
  have HBc := hd (Below.refl W0.heap.size W0)
  have HLP := hd hlp
  have HLL := hd hll
  have HLX := hd hlx
  rw [hlp] at hm hc
  rw [hlp, hll, hlx]
  have HM1 := hd hl.wd
  have HM2 := hd (show ll ≤ 4398046511104 from hll ▸ hl.m)
  have HM3 := hd (show ll ≤ d from hll ▸ hl.c)
  rw [hlx] at hx hxe
  have HMX := hd hx
  have HMP := hd hm
  have HCP := hd hc
  have HCX := hd hxe
  have HI := hd hi
  have HK6 := hd hk64
  clear hW hb0 e1 hp hn hl hq hlp hll hlx hm hc hx hxe hi hk64
  obtain ⟨n0, n1, n2, n3, _, _, _, _⟩ := HC4.out _ HBc.out
  have m1 := HMP.out
  have m2 := HM2.out
  have m3 := HMX.out
  rw [HLP.out] at h1
  have elp : decide ((60 : Int) < (lp : Int)) = true := decide_eq_true (by omega)
  have flp : decide (60 < lp) = true := decide_eq_true (by omega)
  go_enter Try.func8, Try.ntmps8
  go_upto_region 1 with fail
  rw [HW.out]
  go_wp2_with (first
    | (go_at_call 9; refine Calls.mono (live11_any _) ?_; rintro e w9 ⟨rfl, b9⟩; have HBc := hd (step_b HBc.out b9); clear b9; clear n0 n1 n2 n3; obtain ⟨n0, n1, n2, n3, _, _, _, _⟩ := HC4.out _ HBc.out))
  go_ret
  exact ⟨rfl, HBE.out.trans (HBc.out.mono HBE.out.size)⟩
set_option maxRecDepth 100000 in
set_option maxHeartbeats 8000000 in
theorem bforms_e1 (w : World) (k : Int) (hk64 : In64 k) (A : Option Addr) (p : List Int) (c : Nat) (hm : p.length ≤ 9223372036854775807) (hc : p.length ≤ c) (hi : InI p) (hp : IL w w.heap.size A p) (lf : Bool) (P X K : Option Addr) (np pc nt tc nk kc : Nat) (n : NT) (fd : Nat) (hn : NodeAt fd w w.heap.size (.agg #[.bool lf, .slice P np pc, .slice X nt tc, .slice K nk kc]) n) (B : Option Addr) (l : List Pr) (d : Nat) (hl : PropsA w B l d) (D : Option Addr) (x : List Int) (e : Nat) (hx : x.length ≤ 35184372088832) (hxe : x.length ≤ e) (hq : VL w w.heap.size D (rv x)) (h1 : ¬ p.length > 60) (h2 : fewB 100 n = false) : Calls Try.prog 8 #[.int .i64 k, .slice A p.length c, .agg #[.bool lf, .slice P np pc, .slice X nt tc, .slice K nk kc], .slice B l.length d, .slice D x.length e] w (AllTrue w) := by
  obtain ⟨lp, hlp⟩ : ∃ n, p.length = n := ⟨_, rfl⟩
  obtain ⟨ll, hll⟩ : ∃ n, l.length = n := ⟨_, rfl⟩
  obtain ⟨lx, hlx⟩ : ∃ n, x.length = n := ⟨_, rfl⟩
  have hb0 := new_below w (.cells #[.bool lf, .slice P np pc, .slice X nt tc, .slice K nk kc] 27)
  obtain ⟨W0, hW⟩ : ∃ W0, w.alloc (.cells #[.bool lf, .slice P np pc, .slice X nt tc, .slice K nk kc] 27) = W0 := ⟨_, rfl⟩
  have e1 : (w.alloc (.cells #[.bool lf, .slice P np pc, .slice X nt tc, .slice K nk kc] 27)).heap[w.heap.size]? = _ := heap_alloc_new _ _
  rw [hW] at hb0 e1
  have HC4 := hd (fun W (h : Below W0.heap.size W0 W) => blkCells (xkeep e1 h))
  have HP := hd (fun W (h : Below W0.heap.size W0 W) => (hp.later hb0).later h)
  have HN := hd (fun W (h : Below W0.heap.size W0 W) => (hn.later hb0).later h)
  have HL := hd (fun W (h : Below W0.heap.size W0 W) => (hl.q.later hb0).later h)
  have HX := hd (fun W (h : Below W0.heap.size W0 W) => (hq.later hb0).later h)
  have HW := hd hW
  have HBE := hd hb0
  have HBc := hd (Below.refl W0.heap.size W0)
  have HLP := hd hlp
  have HLL := hd hll
  have HLX := hd hlx
  rw [hlp] at hm hc
  rw [hlp, hll, hlx]
  have HM1 := hd hl.wd
  have HM2 := hd (show ll ≤ 4398046511104 from hll ▸ hl.m)
  have HM3 := hd (show ll ≤ d from hll ▸ hl.c)
  rw [hlx] at hx hxe
  have HMX := hd hx
  have HMP := hd hm
  have HCP := hd hc
  have HCX := hd hxe
  have HI := hd hi
  have HK6 := hd hk64
  clear hW hb0 e1 hp hn hl hq hlp hll hlx hm hc hx hxe hi hk64
  obtain ⟨n0, n1, n2, n3, _, _, _, _⟩ := HC4.out _ HBc.out
  have m1 := HMP.out
  have m2 := HM2.out
  have m3 := HMX.out
  rw [HLP.out] at h1
  have elp : decide ((60 : Int) < (lp : Int)) = false := decide_eq_false (by omega)
  have flp : decide (60 < lp) = false := decide_eq_false (by omega)
  have HG1 := hd h2
  have HF1 := hd h2
  clear h2
  go_enter Try.func8, Try.ntmps8
  go_upto_region 1 with fail
  rw [HW.out]
  go_wp2_with (first
    | (go_at_call 9; refine Calls.mono (live11_any _) ?_; rintro e w9 ⟨rfl, b9⟩; have HBc := hd (step_b HBc.out b9); clear b9; clear n0 n1 n2 n3; obtain ⟨n0, n1, n2, n3, _, _, _, _⟩ := HC4.out _ HBc.out)
    | (go_at_call 23; have _g := HF1; refine Calls.mono (few_any fd _ _ n 100 (by unfold In64; omega) (HN.out _ HBc.out)) ?_; clear HF1; rintro e w9 ⟨rfl, b9⟩; rw [HG1.out]; have HBc := hd (step_b HBc.out b9); clear b9; clear n0 n1 n2 n3; obtain ⟨n0, n1, n2, n3, _, _, _, _⟩ := HC4.out _ HBc.out))
  go_ret
  exact ⟨rfl, HBE.out.trans (HBc.out.mono HBE.out.size)⟩
set_option maxRecDepth 100000 in
set_option maxHeartbeats 8000000 in
theorem bforms_e2 (w : World) (k : Int) (hk64 : In64 k) (A : Option Addr) (p : List Int) (c : Nat) (hm : p.length ≤ 9223372036854775807) (hc : p.length ≤ c) (hi : InI p) (hp : IL w w.heap.size A p) (lf : Bool) (P X K : Option Addr) (np pc nt tc nk kc : Nat) (n : NT) (fd : Nat) (hn : NodeAt fd w w.heap.size (.agg #[.bool lf, .slice P np pc, .slice X nt tc, .slice K nk kc]) n) (B : Option Addr) (l : List Pr) (d : Nat) (hl : PropsA w B l d) (D : Option Addr) (x : List Int) (e : Nat) (hx : x.length ≤ 35184372088832) (hxe : x.length ≤ e) (hq : VL w w.heap.size D (rv x)) (h1 : ¬ p.length > 60) (h2 : fewB 100 n = true) (h3 : l.length > 40) : Calls Try.prog 8 #[.int .i64 k, .slice A p.length c, .agg #[.bool lf, .slice P np pc, .slice X nt tc, .slice K nk kc], .slice B l.length d, .slice D x.length e] w (AllTrue w) := by
  obtain ⟨lp, hlp⟩ : ∃ n, p.length = n := ⟨_, rfl⟩
  obtain ⟨ll, hll⟩ : ∃ n, l.length = n := ⟨_, rfl⟩
  obtain ⟨lx, hlx⟩ : ∃ n, x.length = n := ⟨_, rfl⟩
  have hb0 := new_below w (.cells #[.bool lf, .slice P np pc, .slice X nt tc, .slice K nk kc] 27)
  obtain ⟨W0, hW⟩ : ∃ W0, w.alloc (.cells #[.bool lf, .slice P np pc, .slice X nt tc, .slice K nk kc] 27) = W0 := ⟨_, rfl⟩
  have e1 : (w.alloc (.cells #[.bool lf, .slice P np pc, .slice X nt tc, .slice K nk kc] 27)).heap[w.heap.size]? = _ := heap_alloc_new _ _
  rw [hW] at hb0 e1
  have HC4 := hd (fun W (h : Below W0.heap.size W0 W) => blkCells (xkeep e1 h))
  have HP := hd (fun W (h : Below W0.heap.size W0 W) => (hp.later hb0).later h)
  have HN := hd (fun W (h : Below W0.heap.size W0 W) => (hn.later hb0).later h)
  have HL := hd (fun W (h : Below W0.heap.size W0 W) => (hl.q.later hb0).later h)
  have HX := hd (fun W (h : Below W0.heap.size W0 W) => (hq.later hb0).later h)
  have HW := hd hW
  have HBE := hd hb0
  have HBc := hd (Below.refl W0.heap.size W0)
  have HLP := hd hlp
  have HLL := hd hll
  have HLX := hd hlx
  rw [hlp] at hm hc
  rw [hlp, hll, hlx]
  have HM1 := hd hl.wd
  have HM2 := hd (show ll ≤ 4398046511104 from hll ▸ hl.m)
  have HM3 := hd (show ll ≤ d from hll ▸ hl.c)
  rw [hlx] at hx hxe
  have HMX := hd hx
  have HMP := hd hm
  have HCP := hd hc
  have HCX := hd hxe
  have HI := hd hi
  have HK6 := hd hk64
  clear hW hb0 e1 hp hn hl hq hlp hll hlx hm hc hx hxe hi hk64
  obtain ⟨n0, n1, n2, n3, _, _, _, _⟩ := HC4.out _ HBc.out
  have m1 := HMP.out
  have m2 := HM2.out
  have m3 := HMX.out
  rw [HLP.out] at h1
  have elp : decide ((60 : Int) < (lp : Int)) = false := decide_eq_false (by omega)
  have flp : decide (60 < lp) = false := decide_eq_false (by omega)
  have HG1 := hd h2
  have HF1 := hd h2
  clear h2
  rw [HLL.out] at h3
  have ell : decide ((40 : Int) < (ll : Int)) = true := decide_eq_true (by omega)
  have fll : decide (40 < ll) = true := decide_eq_true (by omega)
  go_enter Try.func8, Try.ntmps8
  go_upto_region 1 with fail
  rw [HW.out]
  go_wp2_with (first
    | (go_at_call 9; refine Calls.mono (live11_any _) ?_; rintro e w9 ⟨rfl, b9⟩; have HBc := hd (step_b HBc.out b9); clear b9; clear n0 n1 n2 n3; obtain ⟨n0, n1, n2, n3, _, _, _, _⟩ := HC4.out _ HBc.out)
    | (go_at_call 23; have _g := HF1; refine Calls.mono (few_any fd _ _ n 100 (by unfold In64; omega) (HN.out _ HBc.out)) ?_; clear HF1; rintro e w9 ⟨rfl, b9⟩; rw [HG1.out]; have HBc := hd (step_b HBc.out b9); clear b9; clear n0 n1 n2 n3; obtain ⟨n0, n1, n2, n3, _, _, _, _⟩ := HC4.out _ HBc.out))
  go_ret
  exact ⟨rfl, HBE.out.trans (HBc.out.mono HBE.out.size)⟩
set_option maxRecDepth 100000 in
set_option maxHeartbeats 8000000 in
theorem bforms_e3 (w : World) (k : Int) (hk64 : In64 k) (A : Option Addr) (p : List Int) (c : Nat) (hm : p.length ≤ 9223372036854775807) (hc : p.length ≤ c) (hi : InI p) (hp : IL w w.heap.size A p) (lf : Bool) (P X K : Option Addr) (np pc nt tc nk kc : Nat) (n : NT) (fd : Nat) (hn : NodeAt fd w w.heap.size (.agg #[.bool lf, .slice P np pc, .slice X nt tc, .slice K nk kc]) n) (B : Option Addr) (l : List Pr) (d : Nat) (hl : PropsA w B l d) (D : Option Addr) (x : List Int) (e : Nat) (hx : x.length ≤ 35184372088832) (hxe : x.length ≤ e) (hq : VL w w.heap.size D (rv x)) (h1 : ¬ p.length > 60) (h2 : fewB 100 n = true) (h3 : ¬ l.length > 40) (h4 : x.length > 100) : Calls Try.prog 8 #[.int .i64 k, .slice A p.length c, .agg #[.bool lf, .slice P np pc, .slice X nt tc, .slice K nk kc], .slice B l.length d, .slice D x.length e] w (AllTrue w) := by
  obtain ⟨lp, hlp⟩ : ∃ n, p.length = n := ⟨_, rfl⟩
  obtain ⟨ll, hll⟩ : ∃ n, l.length = n := ⟨_, rfl⟩
  obtain ⟨lx, hlx⟩ : ∃ n, x.length = n := ⟨_, rfl⟩
  have hb0 := new_below w (.cells #[.bool lf, .slice P np pc, .slice X nt tc, .slice K nk kc] 27)
  obtain ⟨W0, hW⟩ : ∃ W0, w.alloc (.cells #[.bool lf, .slice P np pc, .slice X nt tc, .slice K nk kc] 27) = W0 := ⟨_, rfl⟩
  have e1 : (w.alloc (.cells #[.bool lf, .slice P np pc, .slice X nt tc, .slice K nk kc] 27)).heap[w.heap.size]? = _ := heap_alloc_new _ _
  rw [hW] at hb0 e1
  have HC4 := hd (fun W (h : Below W0.heap.size W0 W) => blkCells (xkeep e1 h))
  have HP := hd (fun W (h : Below W0.heap.size W0 W) => (hp.later hb0).later h)
  have HN := hd (fun W (h : Below W0.heap.size W0 W) => (hn.later hb0).later h)
  have HL := hd (fun W (h : Below W0.heap.size W0 W) => (hl.q.later hb0).later h)
  have HX := hd (fun W (h : Below W0.heap.size W0 W) => (hq.later hb0).later h)
  have HW := hd hW
  have HBE := hd hb0
  have HBc := hd (Below.refl W0.heap.size W0)
  have HLP := hd hlp
  have HLL := hd hll
  have HLX := hd hlx
  rw [hlp] at hm hc
  rw [hlp, hll, hlx]
  have HM1 := hd hl.wd
  have HM2 := hd (show ll ≤ 4398046511104 from hll ▸ hl.m)
  have HM3 := hd (show ll ≤ d from hll ▸ hl.c)
  rw [hlx] at hx hxe
  have HMX := hd hx
  have HMP := hd hm
  have HCP := hd hc
  have HCX := hd hxe
  have HI := hd hi
  have HK6 := hd hk64
  clear hW hb0 e1 hp hn hl hq hlp hll hlx hm hc hx hxe hi hk64
  obtain ⟨n0, n1, n2, n3, _, _, _, _⟩ := HC4.out _ HBc.out
  have m1 := HMP.out
  have m2 := HM2.out
  have m3 := HMX.out
  rw [HLP.out] at h1
  have elp : decide ((60 : Int) < (lp : Int)) = false := decide_eq_false (by omega)
  have flp : decide (60 < lp) = false := decide_eq_false (by omega)
  have HG1 := hd h2
  have HF1 := hd h2
  clear h2
  rw [HLL.out] at h3
  have ell : decide ((40 : Int) < (ll : Int)) = false := decide_eq_false (by omega)
  have fll : decide (40 < ll) = false := decide_eq_false (by omega)
  rw [HLX.out] at h4
  have elx : decide ((100 : Int) < (lx : Int)) = true := decide_eq_true (by omega)
  have flx : decide (100 < lx) = true := decide_eq_true (by omega)
  go_enter Try.func8, Try.ntmps8
  go_upto_region 1 with fail
  rw [HW.out]
  go_wp2_with (first
    | (go_at_call 9; refine Calls.mono (live11_any _) ?_; rintro e w9 ⟨rfl, b9⟩; have HBc := hd (step_b HBc.out b9); clear b9; clear n0 n1 n2 n3; obtain ⟨n0, n1, n2, n3, _, _, _, _⟩ := HC4.out _ HBc.out)
    | (go_at_call 23; have _g := HF1; refine Calls.mono (few_any fd _ _ n 100 (by unfold In64; omega) (HN.out _ HBc.out)) ?_; clear HF1; rintro e w9 ⟨rfl, b9⟩; rw [HG1.out]; have HBc := hd (step_b HBc.out b9); clear b9; clear n0 n1 n2 n3; obtain ⟨n0, n1, n2, n3, _, _, _, _⟩ := HC4.out _ HBc.out))
  go_ret
  exact ⟨rfl, HBE.out.trans (HBc.out.mono HBE.out.size)⟩
set_option maxRecDepth 100000 in
set_option maxHeartbeats 8000000 in
theorem bforms_e4 (w : World) (k : Int) (hk64 : In64 k) (A : Option Addr) (p : List Int) (c : Nat) (hm : p.length ≤ 9223372036854775807) (hc : p.length ≤ c) (hi : InI p) (hp : IL w w.heap.size A p) (lf : Bool) (P X K : Option Addr) (np pc nt tc nk kc : Nat) (n : NT) (fd : Nat) (hn : NodeAt fd w w.heap.size (.agg #[.bool lf, .slice P np pc, .slice X nt tc, .slice K nk kc]) n) (B : Option Addr) (l : List Pr) (d : Nat) (hl : PropsA w B l d) (D : Option Addr) (x : List Int) (e : Nat) (hx : x.length ≤ 35184372088832) (hxe : x.length ≤ e) (hq : VL w w.heap.size D (rv x)) (h1 : ¬ p.length > 60) (h2 : fewB 100 n = true) (h3 : ¬ l.length > 40) (h4 : ¬ x.length > 100) (h5 : fewB 100 (.mk false l [] []) = false) : Calls Try.prog 8 #[.int .i64 k, .slice A p.length c, .agg #[.bool lf, .slice P np pc, .slice X nt tc, .slice K nk kc], .slice B l.length d, .slice D x.length e] w (AllTrue w) := by
  obtain ⟨lp, hlp⟩ : ∃ n, p.length = n := ⟨_, rfl⟩
  obtain ⟨ll, hll⟩ : ∃ n, l.length = n := ⟨_, rfl⟩
  obtain ⟨lx, hlx⟩ : ∃ n, x.length = n := ⟨_, rfl⟩
  have hb0 := new_below w (.cells #[.bool lf, .slice P np pc, .slice X nt tc, .slice K nk kc] 27)
  obtain ⟨W0, hW⟩ : ∃ W0, w.alloc (.cells #[.bool lf, .slice P np pc, .slice X nt tc, .slice K nk kc] 27) = W0 := ⟨_, rfl⟩
  have e1 : (w.alloc (.cells #[.bool lf, .slice P np pc, .slice X nt tc, .slice K nk kc] 27)).heap[w.heap.size]? = _ := heap_alloc_new _ _
  rw [hW] at hb0 e1
  have HC4 := hd (fun W (h : Below W0.heap.size W0 W) => blkCells (xkeep e1 h))
  have HP := hd (fun W (h : Below W0.heap.size W0 W) => (hp.later hb0).later h)
  have HN := hd (fun W (h : Below W0.heap.size W0 W) => (hn.later hb0).later h)
  have HL := hd (fun W (h : Below W0.heap.size W0 W) => (hl.q.later hb0).later h)
  have HX := hd (fun W (h : Below W0.heap.size W0 W) => (hq.later hb0).later h)
  have HW := hd hW
  have HBE := hd hb0
  have HBc := hd (Below.refl W0.heap.size W0)
  have HLP := hd hlp
  have HLL := hd hll
  have HLX := hd hlx
  rw [hlp] at hm hc
  rw [hlp, hll, hlx]
  have HM1 := hd hl.wd
  have HM2 := hd (show ll ≤ 4398046511104 from hll ▸ hl.m)
  have HM3 := hd (show ll ≤ d from hll ▸ hl.c)
  rw [hlx] at hx hxe
  have HMX := hd hx
  have HMP := hd hm
  have HCP := hd hc
  have HCX := hd hxe
  have HI := hd hi
  have HK6 := hd hk64
  clear hW hb0 e1 hp hn hl hq hlp hll hlx hm hc hx hxe hi hk64
  obtain ⟨n0, n1, n2, n3, _, _, _, _⟩ := HC4.out _ HBc.out
  have m1 := HMP.out
  have m2 := HM2.out
  have m3 := HMX.out
  rw [HLP.out] at h1
  have elp : decide ((60 : Int) < (lp : Int)) = false := decide_eq_false (by omega)
  have flp : decide (60 < lp) = false := decide_eq_false (by omega)
  have HG1 := hd h2
  have HF1 := hd h2
  clear h2
  rw [HLL.out] at h3
  have ell : decide ((40 : Int) < (ll : Int)) = false := decide_eq_false (by omega)
  have fll : decide (40 < ll) = false := decide_eq_false (by omega)
  rw [HLX.out] at h4
  have elx : decide ((100 : Int) < (lx : Int)) = false := decide_eq_false (by omega)
  have flx : decide (100 < lx) = false := decide_eq_false (by omega)
  have HG2 := hd h5
  clear h5
  go_enter Try.func8, Try.ntmps8
  go_upto_region 1 with fail
  rw [HW.out]
  go_wp2_with (first
    | (go_at_call 9; refine Calls.mono (live11_any _) ?_; rintro e w9 ⟨rfl, b9⟩; have HBc := hd (step_b HBc.out b9); clear b9; clear n0 n1 n2 n3; obtain ⟨n0, n1, n2, n3, _, _, _, _⟩ := HC4.out _ HBc.out)
    | (go_at_call 23; have _g := HF1; refine Calls.mono (few_any fd _ _ n 100 (by unfold In64; omega) (HN.out _ HBc.out)) ?_; clear HF1; rintro e w9 ⟨rfl, b9⟩; rw [HG1.out]; have HBc := hd (step_b HBc.out b9); clear b9; clear n0 n1 n2 n3; obtain ⟨n0, n1, n2, n3, _, _, _, _⟩ := HC4.out _ HBc.out)
    | (go_at_call 23; have _g := HG2; refine Calls.mono (few_any 1 _ _ (.mk false l [] []) 100 (by unfold In64; omega) (NodeAt.shut HLL.out.symm rfl rfl (HL.out _ HBc.out) (VL.nil _ _ _) ⟨HM1.out, by rw [HLL.out]; exact HM2.out, by simp, by simp, by rw [HLL.out]; exact HM3.out, by simp, by simp⟩ (fun k m h => by simp at h))) ?_; rintro e w9 ⟨rfl, b9⟩; rw [HG2.out]; have HBc := hd (step_b HBc.out b9); clear b9; clear n0 n1 n2 n3; obtain ⟨n0, n1, n2, n3, _, _, _, _⟩ := HC4.out _ HBc.out))
  go_ret
  exact ⟨rfl, HBE.out.trans (HBc.out.mono HBE.out.size)⟩
set_option maxRecDepth 100000 in
set_option maxHeartbeats 8000000 in
theorem bforms_lo (w : World) (k : Int) (hk64 : In64 k) (A : Option Addr) (p : List Int) (c : Nat) (hm : p.length ≤ 9223372036854775807) (hc : p.length ≤ c) (hi : InI p) (hp : IL w w.heap.size A p) (lf : Bool) (P X K : Option Addr) (np pc nt tc nk kc : Nat) (n : NT) (fd : Nat) (hn : NodeAt fd w w.heap.size (.agg #[.bool lf, .slice P np pc, .slice X nt tc, .slice K nk kc]) n) (B : Option Addr) (l : List Pr) (d : Nat) (hl : PropsA w B l d) (D : Option Addr) (x : List Int) (e : Nat) (hx : x.length ≤ 35184372088832) (hxe : x.length ≤ e) (hq : VL w w.heap.size D (rv x)) (h1 : ¬ p.length > 60) (h2 : fewB 100 n = true) (h3 : ¬ l.length > 40) (h4 : ¬ x.length > 100) (h5 : fewB 100 (.mk false l [] []) = true) (hk : k < 1) : Calls Try.prog 8 #[.int .i64 k, .slice A p.length c, .agg #[.bool lf, .slice P np pc, .slice X nt tc, .slice K nk kc], .slice B l.length d, .slice D x.length e] w (AllTrue w) := by
  obtain ⟨lp, hlp⟩ : ∃ n, p.length = n := ⟨_, rfl⟩
  obtain ⟨ll, hll⟩ : ∃ n, l.length = n := ⟨_, rfl⟩
  obtain ⟨lx, hlx⟩ : ∃ n, x.length = n := ⟨_, rfl⟩
  have hb0 := new_below w (.cells #[.bool lf, .slice P np pc, .slice X nt tc, .slice K nk kc] 27)
  obtain ⟨W0, hW⟩ : ∃ W0, w.alloc (.cells #[.bool lf, .slice P np pc, .slice X nt tc, .slice K nk kc] 27) = W0 := ⟨_, rfl⟩
  have e1 : (w.alloc (.cells #[.bool lf, .slice P np pc, .slice X nt tc, .slice K nk kc] 27)).heap[w.heap.size]? = _ := heap_alloc_new _ _
  rw [hW] at hb0 e1
  have HC4 := hd (fun W (h : Below W0.heap.size W0 W) => blkCells (xkeep e1 h))
  have HP := hd (fun W (h : Below W0.heap.size W0 W) => (hp.later hb0).later h)
  have HN := hd (fun W (h : Below W0.heap.size W0 W) => (hn.later hb0).later h)
  have HL := hd (fun W (h : Below W0.heap.size W0 W) => (hl.q.later hb0).later h)
  have HX := hd (fun W (h : Below W0.heap.size W0 W) => (hq.later hb0).later h)
  have HW := hd hW
  have HBE := hd hb0
  have HBc := hd (Below.refl W0.heap.size W0)
  have HLP := hd hlp
  have HLL := hd hll
  have HLX := hd hlx
  rw [hlp] at hm hc
  rw [hlp, hll, hlx]
  have HM1 := hd hl.wd
  have HM2 := hd (show ll ≤ 4398046511104 from hll ▸ hl.m)
  have HM3 := hd (show ll ≤ d from hll ▸ hl.c)
  rw [hlx] at hx hxe
  have HMX := hd hx
  have HMP := hd hm
  have HCP := hd hc
  have HCX := hd hxe
  have HI := hd hi
  have HK6 := hd hk64
  clear hW hb0 e1 hp hn hl hq hlp hll hlx hm hc hx hxe hi hk64
  obtain ⟨n0, n1, n2, n3, _, _, _, _⟩ := HC4.out _ HBc.out
  have m1 := HMP.out
  have m2 := HM2.out
  have m3 := HMX.out
  rw [HLP.out] at h1
  have elp : decide ((60 : Int) < (lp : Int)) = false := decide_eq_false (by omega)
  have flp : decide (60 < lp) = false := decide_eq_false (by omega)
  have HG1 := hd h2
  have HF1 := hd h2
  clear h2
  rw [HLL.out] at h3
  have ell : decide ((40 : Int) < (ll : Int)) = false := decide_eq_false (by omega)
  have fll : decide (40 < ll) = false := decide_eq_false (by omega)
  rw [HLX.out] at h4
  have elx : decide ((100 : Int) < (lx : Int)) = false := decide_eq_false (by omega)
  have flx : decide (100 < lx) = false := decide_eq_false (by omega)
  have HG2 := hd h5
  clear h5
  have k1 : decide (1 ≤ k) = false := decide_eq_false (by omega)
  have hkb : kindB k = false := by unfold kindB; rw [k1]; rfl
  have HA := hd (form_none (o := { zeroO with k := k }) hkb)
  have HB := hd (form_none (o := { zeroO with k := k, q := p, n := n, o := l }) hkb)
  have HK1 := hd hk
  clear hk hkb
  go_enter Try.func8, Try.ntmps8
  go_upto_region 1 with fail
  rw [HW.out]
  go_wp2_with (first
    | (go_at_call 9; refine Calls.mono (live11_any _) ?_; rintro e w9 ⟨rfl, b9⟩; have HBc := hd (step_b HBc.out b9); clear b9; clear n0 n1 n2 n3; obtain ⟨n0, n1, n2, n3, _, _, _, _⟩ := HC4.out _ HBc.out)
    | (go_at_call 23; have _g := HF1; refine Calls.mono (few_any fd _ _ n 100 (by unfold In64; omega) (HN.out _ HBc.out)) ?_; clear HF1; rintro e w9 ⟨rfl, b9⟩; rw [HG1.out]; have HBc := hd (step_b HBc.out b9); clear b9; clear n0 n1 n2 n3; obtain ⟨n0, n1, n2, n3, _, _, _, _⟩ := HC4.out _ HBc.out)
    | (go_at_call 23; have _g := HG2; refine Calls.mono (few_any 1 _ _ (.mk false l [] []) 100 (by unfold In64; omega) (NodeAt.shut HLL.out.symm rfl rfl (HL.out _ HBc.out) (VL.nil _ _ _) ⟨HM1.out, by rw [HLL.out]; exact HM2.out, by simp, by simp, by rw [HLL.out]; exact HM3.out, by simp, by simp⟩ (fun k m h => by simp at h))) ?_; rintro e w9 ⟨rfl, b9⟩; rw [HG2.out]; have HBc := hd (step_b HBc.out b9); clear b9; clear n0 n1 n2 n3; obtain ⟨n0, n1, n2, n3, _, _, _, _⟩ := HC4.out _ HBc.out)
    | (go_at_call 14; have _g := HA; refine Calls.mono (form_at (c := (OC.mk k none 0 0 none 0 0 0 false none 0 0 none 0 0 none 0 0 none 0 0 none 0 0 none 0 0 false none 0 0 0 none 0 0 0 false none 0 0 0 none 0 0 0)) (a := { zeroO with k := k }) ((OkA.zero _).setK HK6.out) (by constructor <;> simp [zeroO, zeroS] <;> first | (have := HLP.out; omega) | (have := HLL.out; omega) | (have := HLX.out; omega)) HA.out) ?_; clear HA; rintro e w9 ⟨rfl, b9⟩; have HBc := hd (step_b HBc.out b9); clear b9; clear n0 n1 n2 n3; obtain ⟨n0, n1, n2, n3, _, _, _, _⟩ := HC4.out _ HBc.out)
    | (go_at_call 14; have _g := HB; refine Calls.mono (form_at (c := (OC.mk k A lp c none 0 0 0 lf P np pc X nt tc K nk kc B ll d none 0 0 none 0 0 false none 0 0 0 none 0 0 0 false none 0 0 0 none 0 0 0)) (a := { zeroO with k := k, q := p, n := n, o := l }) (((((OkA.zero _).setK HK6.out).setQ HLP.out HCP.out HMP.out (HP.out _ HBc.out) HI.out).setN (HN.out _ HBc.out)).setO HLL.out HM3.out HM2.out (HL.out _ HBc.out) HM1.out) (by constructor <;> simp [zeroO, zeroS] <;> first | (have := HLP.out; omega) | (have := HLL.out; omega) | (have := HLX.out; omega)) HB.out) ?_; clear HB; rintro e w9 ⟨rfl, b9⟩; have HBc := hd (step_b HBc.out b9); clear b9; clear n0 n1 n2 n3; obtain ⟨n0, n1, n2, n3, _, _, _, _⟩ := HC4.out _ HBc.out))
  go_ret
  exact ⟨rfl, HBE.out.trans (HBc.out.mono HBE.out.size)⟩
set_option maxRecDepth 100000 in
set_option maxHeartbeats 8000000 in
theorem bforms_hi (w : World) (k : Int) (hk64 : In64 k) (A : Option Addr) (p : List Int) (c : Nat) (hm : p.length ≤ 9223372036854775807) (hc : p.length ≤ c) (hi : InI p) (hp : IL w w.heap.size A p) (lf : Bool) (P X K : Option Addr) (np pc nt tc nk kc : Nat) (n : NT) (fd : Nat) (hn : NodeAt fd w w.heap.size (.agg #[.bool lf, .slice P np pc, .slice X nt tc, .slice K nk kc]) n) (B : Option Addr) (l : List Pr) (d : Nat) (hl : PropsA w B l d) (D : Option Addr) (x : List Int) (e : Nat) (hx : x.length ≤ 35184372088832) (hxe : x.length ≤ e) (hq : VL w w.heap.size D (rv x)) (h1 : ¬ p.length > 60) (h2 : fewB 100 n = true) (h3 : ¬ l.length > 40) (h4 : ¬ x.length > 100) (h5 : fewB 100 (.mk false l [] []) = true) (hk : 9 < k) : Calls Try.prog 8 #[.int .i64 k, .slice A p.length c, .agg #[.bool lf, .slice P np pc, .slice X nt tc, .slice K nk kc], .slice B l.length d, .slice D x.length e] w (AllTrue w) := by
  obtain ⟨lp, hlp⟩ : ∃ n, p.length = n := ⟨_, rfl⟩
  obtain ⟨ll, hll⟩ : ∃ n, l.length = n := ⟨_, rfl⟩
  obtain ⟨lx, hlx⟩ : ∃ n, x.length = n := ⟨_, rfl⟩
  have hb0 := new_below w (.cells #[.bool lf, .slice P np pc, .slice X nt tc, .slice K nk kc] 27)
  obtain ⟨W0, hW⟩ : ∃ W0, w.alloc (.cells #[.bool lf, .slice P np pc, .slice X nt tc, .slice K nk kc] 27) = W0 := ⟨_, rfl⟩
  have e1 : (w.alloc (.cells #[.bool lf, .slice P np pc, .slice X nt tc, .slice K nk kc] 27)).heap[w.heap.size]? = _ := heap_alloc_new _ _
  rw [hW] at hb0 e1
  have HC4 := hd (fun W (h : Below W0.heap.size W0 W) => blkCells (xkeep e1 h))
  have HP := hd (fun W (h : Below W0.heap.size W0 W) => (hp.later hb0).later h)
  have HN := hd (fun W (h : Below W0.heap.size W0 W) => (hn.later hb0).later h)
  have HL := hd (fun W (h : Below W0.heap.size W0 W) => (hl.q.later hb0).later h)
  have HX := hd (fun W (h : Below W0.heap.size W0 W) => (hq.later hb0).later h)
  have HW := hd hW
  have HBE := hd hb0
  have HBc := hd (Below.refl W0.heap.size W0)
  have HLP := hd hlp
  have HLL := hd hll
  have HLX := hd hlx
  rw [hlp] at hm hc
  rw [hlp, hll, hlx]
  have HM1 := hd hl.wd
  have HM2 := hd (show ll ≤ 4398046511104 from hll ▸ hl.m)
  have HM3 := hd (show ll ≤ d from hll ▸ hl.c)
  rw [hlx] at hx hxe
  have HMX := hd hx
  have HMP := hd hm
  have HCP := hd hc
  have HCX := hd hxe
  have HI := hd hi
  have HK6 := hd hk64
  clear hW hb0 e1 hp hn hl hq hlp hll hlx hm hc hx hxe hi hk64
  obtain ⟨n0, n1, n2, n3, _, _, _, _⟩ := HC4.out _ HBc.out
  have m1 := HMP.out
  have m2 := HM2.out
  have m3 := HMX.out
  rw [HLP.out] at h1
  have elp : decide ((60 : Int) < (lp : Int)) = false := decide_eq_false (by omega)
  have flp : decide (60 < lp) = false := decide_eq_false (by omega)
  have HG1 := hd h2
  have HF1 := hd h2
  clear h2
  rw [HLL.out] at h3
  have ell : decide ((40 : Int) < (ll : Int)) = false := decide_eq_false (by omega)
  have fll : decide (40 < ll) = false := decide_eq_false (by omega)
  rw [HLX.out] at h4
  have elx : decide ((100 : Int) < (lx : Int)) = false := decide_eq_false (by omega)
  have flx : decide (100 < lx) = false := decide_eq_false (by omega)
  have HG2 := hd h5
  clear h5
  have k1 : decide (1 ≤ k) = true := decide_eq_true (by omega)
  have k2 : decide (k ≤ 9) = false := decide_eq_false (by omega)
  have hkb : kindB k = false := by unfold kindB; rw [k1, k2]; rfl
  have HA := hd (form_none (o := { zeroO with k := k }) hkb)
  have HB := hd (form_none (o := { zeroO with k := k, q := p, n := n, o := l }) hkb)
  have HK1 := hd hk
  clear hk hkb
  go_enter Try.func8, Try.ntmps8
  go_upto_region 1 with fail
  rw [HW.out]
  go_wp2_with (first
    | (go_at_call 9; refine Calls.mono (live11_any _) ?_; rintro e w9 ⟨rfl, b9⟩; have HBc := hd (step_b HBc.out b9); clear b9; clear n0 n1 n2 n3; obtain ⟨n0, n1, n2, n3, _, _, _, _⟩ := HC4.out _ HBc.out)
    | (go_at_call 23; have _g := HF1; refine Calls.mono (few_any fd _ _ n 100 (by unfold In64; omega) (HN.out _ HBc.out)) ?_; clear HF1; rintro e w9 ⟨rfl, b9⟩; rw [HG1.out]; have HBc := hd (step_b HBc.out b9); clear b9; clear n0 n1 n2 n3; obtain ⟨n0, n1, n2, n3, _, _, _, _⟩ := HC4.out _ HBc.out)
    | (go_at_call 23; have _g := HG2; refine Calls.mono (few_any 1 _ _ (.mk false l [] []) 100 (by unfold In64; omega) (NodeAt.shut HLL.out.symm rfl rfl (HL.out _ HBc.out) (VL.nil _ _ _) ⟨HM1.out, by rw [HLL.out]; exact HM2.out, by simp, by simp, by rw [HLL.out]; exact HM3.out, by simp, by simp⟩ (fun k m h => by simp at h))) ?_; rintro e w9 ⟨rfl, b9⟩; rw [HG2.out]; have HBc := hd (step_b HBc.out b9); clear b9; clear n0 n1 n2 n3; obtain ⟨n0, n1, n2, n3, _, _, _, _⟩ := HC4.out _ HBc.out)
    | (go_at_call 14; have _g := HA; refine Calls.mono (form_at (c := (OC.mk k none 0 0 none 0 0 0 false none 0 0 none 0 0 none 0 0 none 0 0 none 0 0 none 0 0 false none 0 0 0 none 0 0 0 false none 0 0 0 none 0 0 0)) (a := { zeroO with k := k }) ((OkA.zero _).setK HK6.out) (by constructor <;> simp [zeroO, zeroS] <;> first | (have := HLP.out; omega) | (have := HLL.out; omega) | (have := HLX.out; omega)) HA.out) ?_; clear HA; rintro e w9 ⟨rfl, b9⟩; have HBc := hd (step_b HBc.out b9); clear b9; clear n0 n1 n2 n3; obtain ⟨n0, n1, n2, n3, _, _, _, _⟩ := HC4.out _ HBc.out)
    | (go_at_call 14; have _g := HB; refine Calls.mono (form_at (c := (OC.mk k A lp c none 0 0 0 lf P np pc X nt tc K nk kc B ll d none 0 0 none 0 0 false none 0 0 0 none 0 0 0 false none 0 0 0 none 0 0 0)) (a := { zeroO with k := k, q := p, n := n, o := l }) (((((OkA.zero _).setK HK6.out).setQ HLP.out HCP.out HMP.out (HP.out _ HBc.out) HI.out).setN (HN.out _ HBc.out)).setO HLL.out HM3.out HM2.out (HL.out _ HBc.out) HM1.out) (by constructor <;> simp [zeroO, zeroS] <;> first | (have := HLP.out; omega) | (have := HLL.out; omega) | (have := HLX.out; omega)) HB.out) ?_; clear HB; rintro e w9 ⟨rfl, b9⟩; have HBc := hd (step_b HBc.out b9); clear b9; clear n0 n1 n2 n3; obtain ⟨n0, n1, n2, n3, _, _, _, _⟩ := HC4.out _ HBc.out))
  go_ret
  exact ⟨rfl, HBE.out.trans (HBc.out.mono HBE.out.size)⟩
set_option maxRecDepth 100000 in
set_option maxHeartbeats 8000000 in
theorem bforms_1 (w : World) (k : Int) (hk64 : In64 k) (A : Option Addr) (p : List Int) (c : Nat) (hm : p.length ≤ 9223372036854775807) (hc : p.length ≤ c) (hi : InI p) (hp : IL w w.heap.size A p) (lf : Bool) (P X K : Option Addr) (np pc nt tc nk kc : Nat) (n : NT) (fd : Nat) (hn : NodeAt fd w w.heap.size (.agg #[.bool lf, .slice P np pc, .slice X nt tc, .slice K nk kc]) n) (B : Option Addr) (l : List Pr) (d : Nat) (hl : PropsA w B l d) (D : Option Addr) (x : List Int) (e : Nat) (hx : x.length ≤ 35184372088832) (hxe : x.length ≤ e) (hq : VL w w.heap.size D (rv x)) (h1 : ¬ p.length > 60) (h2 : fewB 100 n = true) (h3 : ¬ l.length > 40) (h4 : ¬ x.length > 100) (h5 : fewB 100 (.mk false l [] []) = true) (hk : k = 1) : Calls Try.prog 8 #[.int .i64 k, .slice A p.length c, .agg #[.bool lf, .slice P np pc, .slice X nt tc, .slice K nk kc], .slice B l.length d, .slice D x.length e] w (AllTrue w) := by
  obtain ⟨lp, hlp⟩ : ∃ n, p.length = n := ⟨_, rfl⟩
  obtain ⟨ll, hll⟩ : ∃ n, l.length = n := ⟨_, rfl⟩
  obtain ⟨lx, hlx⟩ : ∃ n, x.length = n := ⟨_, rfl⟩
  have hb0 := new_below w (.cells #[.bool lf, .slice P np pc, .slice X nt tc, .slice K nk kc] 27)
  obtain ⟨W0, hW⟩ : ∃ W0, w.alloc (.cells #[.bool lf, .slice P np pc, .slice X nt tc, .slice K nk kc] 27) = W0 := ⟨_, rfl⟩
  have e1 : (w.alloc (.cells #[.bool lf, .slice P np pc, .slice X nt tc, .slice K nk kc] 27)).heap[w.heap.size]? = _ := heap_alloc_new _ _
  rw [hW] at hb0 e1
  have HC4 := hd (fun W (h : Below W0.heap.size W0 W) => blkCells (xkeep e1 h))
  have HP := hd (fun W (h : Below W0.heap.size W0 W) => (hp.later hb0).later h)
  have HN := hd (fun W (h : Below W0.heap.size W0 W) => (hn.later hb0).later h)
  have HL := hd (fun W (h : Below W0.heap.size W0 W) => (hl.q.later hb0).later h)
  have HX := hd (fun W (h : Below W0.heap.size W0 W) => (hq.later hb0).later h)
  have HW := hd hW
  have HBE := hd hb0
  have HBc := hd (Below.refl W0.heap.size W0)
  have HLP := hd hlp
  have HLL := hd hll
  have HLX := hd hlx
  rw [hlp] at hm hc
  rw [hlp, hll, hlx]
  have HM1 := hd hl.wd
  have HM2 := hd (show ll ≤ 4398046511104 from hll ▸ hl.m)
  have HM3 := hd (show ll ≤ d from hll ▸ hl.c)
  rw [hlx] at hx hxe
  have HMX := hd hx
  have HMP := hd hm
  have HCP := hd hc
  have HCX := hd hxe
  have HI := hd hi
  have HK6 := hd hk64
  clear hW hb0 e1 hp hn hl hq hlp hll hlx hm hc hx hxe hi hk64
  obtain ⟨n0, n1, n2, n3, _, _, _, _⟩ := HC4.out _ HBc.out
  have m1 := HMP.out
  have m2 := HM2.out
  have m3 := HMX.out
  rw [HLP.out] at h1
  have elp : decide ((60 : Int) < (lp : Int)) = false := decide_eq_false (by omega)
  have flp : decide (60 < lp) = false := decide_eq_false (by omega)
  have HG1 := hd h2
  have HF1 := hd h2
  clear h2
  rw [HLL.out] at h3
  have ell : decide ((40 : Int) < (ll : Int)) = false := decide_eq_false (by omega)
  have fll : decide (40 < ll) = false := decide_eq_false (by omega)
  rw [HLX.out] at h4
  have elx : decide ((100 : Int) < (lx : Int)) = false := decide_eq_false (by omega)
  have flx : decide (100 < lx) = false := decide_eq_false (by omega)
  have HG2 := hd h5
  clear h5
  subst hk
  obtain ⟨ep, hep⟩ : ∃ b, decide (lp = 0) = b := ⟨_, rfl⟩
  obtain ⟨ex, hex⟩ : ∃ b, decide (lx = 0) = b := ⟨_, rfl⟩
  obtain ⟨eo, heo⟩ : ∃ b, decide (ll = 0) = b := ⟨_, rfl⟩
  obtain ⟨en, hen⟩ : ∃ b, eqT n zeroT = b := ⟨_, rfl⟩
  have HEN := hd hen
  have hp0 : p = [] ↔ ep = true := by rw [← hep, decide_eq_true_iff, ← HLP.out, List.length_eq_zero_iff]
  have hx0 : x = [] ↔ ex = true := by rw [← hex, decide_eq_true_iff, ← HLX.out, List.length_eq_zero_iff]
  have hl0 : l = [] ↔ eo = true := by rw [← heo, decide_eq_true_iff, ← HLL.out, List.length_eq_zero_iff]
  have hn0 : n = zeroT ↔ en = true := by rw [← hen, eqT_iff]
  have HA := hd (form_of (o := { zeroO with k := 1 }) rfl rfl)
  have HQ := hd (form_of (o := { zeroO with k := 1, q := p }) rfl rfl)
  obtain ⟨Fx, hFx⟩ : ∃ F, formE { zeroO with k := 1, x := x } = F := ⟨_, rfl⟩
  have bx : (Fx == 0) = ex := by
    rw [← hFx]
    refine form_bool (o := { zeroO with k := 1, x := x }) rfl ?_
    rw [← hx0]
    simp [fieldsO, zeroO, eq_comm]
  have HXX := hd hFx
  clear hFx
  have HNN := hd (form_of (o := { zeroO with k := 1, n := n }) rfl rfl)
  obtain ⟨Fo, hFo⟩ : ∃ F, formE { zeroO with k := 1, o := l } = F := ⟨_, rfl⟩
  have bo : (Fo == 0) = eo := by
    rw [← hFo]
    refine form_bool (o := { zeroO with k := 1, o := l }) rfl ?_
    rw [← hl0]
    simp [fieldsO, zeroO, eq_comm]
  have HOO := hd hFo
  clear hFo
  obtain ⟨Ft, hFt⟩ : ∃ F, formE { zeroO with k := 1, t := p } = F := ⟨_, rfl⟩
  have bt : (Ft == 0) = ep := by
    rw [← hFt]
    refine form_bool (o := { zeroO with k := 1, t := p }) rfl ?_
    rw [← hp0]
    simp [fieldsO, zeroO, eq_comm]
  have HTT := hd hFt
  clear hFt
  have g1 : ((lp : Int) == 0) = ep := by rw [← hep]; cases h : decide (lp = 0) <;> simp at h ⊢ <;> omega
  have g2 : ((lx : Int) == 0) = ex := by rw [← hex]; cases h : decide (lx = 0) <;> simp at h ⊢ <;> omega
  have g3 : ((ll : Int) == 0) = eo := by rw [← heo]; cases h : decide (ll = 0) <;> simp at h ⊢ <;> omega
  clear hp0 hx0 hl0 hn0 hen
  go_enter Try.func8, Try.ntmps8
  go_upto_region 1 with fail
  rw [HW.out]
  go_wp2_with (first
    | (go_at_call 9; refine Calls.mono (live11_any _) ?_; rintro e w9 ⟨rfl, b9⟩; have HBc := hd (step_b HBc.out b9); clear b9; clear n0 n1 n2 n3; obtain ⟨n0, n1, n2, n3, _, _, _, _⟩ := HC4.out _ HBc.out)
    | (go_at_call 23; have _g := HF1; refine Calls.mono (few_any fd _ _ n 100 (by unfold In64; omega) (HN.out _ HBc.out)) ?_; clear HF1; rintro e w9 ⟨rfl, b9⟩; rw [HG1.out]; have HBc := hd (step_b HBc.out b9); clear b9; clear n0 n1 n2 n3; obtain ⟨n0, n1, n2, n3, _, _, _, _⟩ := HC4.out _ HBc.out)
    | (go_at_call 23; have _g := HG2; refine Calls.mono (few_any 1 _ _ (.mk false l [] []) 100 (by unfold In64; omega) (NodeAt.shut HLL.out.symm rfl rfl (HL.out _ HBc.out) (VL.nil _ _ _) ⟨HM1.out, by rw [HLL.out]; exact HM2.out, by simp, by simp, by rw [HLL.out]; exact HM3.out, by simp, by simp⟩ (fun k m h => by simp at h))) ?_; rintro e w9 ⟨rfl, b9⟩; rw [HG2.out]; have HBc := hd (step_b HBc.out b9); clear b9; clear n0 n1 n2 n3; obtain ⟨n0, n1, n2, n3, _, _, _, _⟩ := HC4.out _ HBc.out)
    | (go_at_call 14; have _g := HA; refine Calls.mono (form_at (c := (OC.mk 1 none 0 0 none 0 0 0 false none 0 0 none 0 0 none 0 0 none 0 0 none 0 0 none 0 0 false none 0 0 0 none 0 0 0 false none 0 0 0 none 0 0 0)) (a := { zeroO with k := 1 }) ((OkA.zero _).setK HK6.out) (by constructor <;> simp [zeroO, zeroS] <;> first | (have := HLP.out; omega) | (have := HLL.out; omega) | (have := HLX.out; omega)) HA.out) ?_; clear HA; rintro e w9 ⟨rfl, b9⟩; have HBc := hd (step_b HBc.out b9); clear b9; clear n0 n1 n2 n3; obtain ⟨n0, n1, n2, n3, _, _, _, _⟩ := HC4.out _ HBc.out)
    | (go_at_call 14; have _g := HQ; refine Calls.mono (form_at (c := (OC.mk 1 A lp c none 0 0 0 false none 0 0 none 0 0 none 0 0 none 0 0 none 0 0 none 0 0 false none 0 0 0 none 0 0 0 false none 0 0 0 none 0 0 0)) (a := { zeroO with k := 1, q := p }) (((OkA.zero _).setK HK6.out).setQ HLP.out HCP.out HMP.out (HP.out _ HBc.out) HI.out) (by constructor <;> simp [zeroO, zeroS] <;> first | (have := HLP.out; omega) | (have := HLL.out; omega) | (have := HLX.out; omega)) HQ.out) ?_; clear HQ; rintro e w9 ⟨rfl, b9⟩; have HBc := hd (step_b HBc.out b9); clear b9; clear n0 n1 n2 n3; obtain ⟨n0, n1, n2, n3, _, _, _, _⟩ := HC4.out _ HBc.out)
    | (go_at_call 14; have _g := HXX; refine Calls.mono (form_at (c := (OC.mk 1 none 0 0 none 0 0 0 false none 0 0 none 0 0 none 0 0 none 0 0 none 0 0 D lx e false none 0 0 0 none 0 0 0 false none 0 0 0 none 0 0 0)) (a := { zeroO with k := 1, x := x }) (((OkA.zero _).setK HK6.out).setX HLX.out HCX.out HMX.out (HX.out _ HBc.out)) (by constructor <;> simp [zeroO, zeroS] <;> first | (have := HLP.out; omega) | (have := HLL.out; omega) | (have := HLX.out; omega)) HXX.out) ?_; clear HXX; rintro e w9 ⟨rfl, b9⟩; have HBc := hd (step_b HBc.out b9); clear b9; clear n0 n1 n2 n3; obtain ⟨n0, n1, n2, n3, _, _, _, _⟩ := HC4.out _ HBc.out)
    | (go_at_call 14; have _g := HNN; refine Calls.mono (form_at (c := (OC.mk 1 none 0 0 none 0 0 0 lf P np pc X nt tc K nk kc none 0 0 none 0 0 none 0 0 false none 0 0 0 none 0 0 0 false none 0 0 0 none 0 0 0)) (a := { zeroO with k := 1, n := n }) (((OkA.zero _).setK HK6.out).setN (HN.out _ HBc.out)) (by constructor <;> simp [zeroO, zeroS] <;> first | (have := HLP.out; omega) | (have := HLL.out; omega) | (have := HLX.out; omega)) HNN.out) ?_; clear HNN; rintro e w9 ⟨rfl, b9⟩; have HBc := hd (step_b HBc.out b9); clear b9; clear n0 n1 n2 n3; obtain ⟨n0, n1, n2, n3, _, _, _, _⟩ := HC4.out _ HBc.out)
    | (go_at_call 14; have _g := HOO; refine Calls.mono (form_at (c := (OC.mk 1 none 0 0 none 0 0 0 false none 0 0 none 0 0 none 0 0 B ll d none 0 0 none 0 0 false none 0 0 0 none 0 0 0 false none 0 0 0 none 0 0 0)) (a := { zeroO with k := 1, o := l }) (((OkA.zero _).setK HK6.out).setO HLL.out HM3.out HM2.out (HL.out _ HBc.out) HM1.out) (by constructor <;> simp [zeroO, zeroS] <;> first | (have := HLP.out; omega) | (have := HLL.out; omega) | (have := HLX.out; omega)) HOO.out) ?_; clear HOO; rintro e w9 ⟨rfl, b9⟩; have HBc := hd (step_b HBc.out b9); clear b9; clear n0 n1 n2 n3; obtain ⟨n0, n1, n2, n3, _, _, _, _⟩ := HC4.out _ HBc.out)
    | (go_at_call 14; have _g := HTT; refine Calls.mono (form_at (c := (OC.mk 1 none 0 0 A lp c 0 false none 0 0 none 0 0 none 0 0 none 0 0 none 0 0 none 0 0 false none 0 0 0 none 0 0 0 false none 0 0 0 none 0 0 0)) (a := { zeroO with k := 1, t := p }) (((OkA.zero _).setK HK6.out).setT HLP.out HCP.out HMP.out (HP.out _ HBc.out) HI.out) (by constructor <;> simp [zeroO, zeroS] <;> first | (have := HLP.out; omega) | (have := HLL.out; omega) | (have := HLX.out; omega)) HTT.out) ?_; clear HTT; rintro e w9 ⟨rfl, b9⟩; have HBc := hd (step_b HBc.out b9); clear b9; clear n0 n1 n2 n3; obtain ⟨n0, n1, n2, n3, _, _, _, _⟩ := HC4.out _ HBc.out)
    | (go_at_call 24; refine Calls.mono (rnsame_any fd 1 _ _ _ _ _ (HN.out _ HBc.out) (zero_node _ _)) ?_; rintro e w9 ⟨rfl, b9⟩; rw [HEN.out]; have HBc := hd (step_b HBc.out b9); clear b9; clear n0 n1 n2 n3; obtain ⟨n0, n1, n2, n3, _, _, _, _⟩ := HC4.out _ HBc.out))
  go_ret
  exact ⟨rfl, HBE.out.trans (HBc.out.mono HBE.out.size)⟩
set_option maxRecDepth 100000 in
set_option maxHeartbeats 8000000 in
theorem bforms_2 (w : World) (k : Int) (hk64 : In64 k) (A : Option Addr) (p : List Int) (c : Nat) (hm : p.length ≤ 9223372036854775807) (hc : p.length ≤ c) (hi : InI p) (hp : IL w w.heap.size A p) (lf : Bool) (P X K : Option Addr) (np pc nt tc nk kc : Nat) (n : NT) (fd : Nat) (hn : NodeAt fd w w.heap.size (.agg #[.bool lf, .slice P np pc, .slice X nt tc, .slice K nk kc]) n) (B : Option Addr) (l : List Pr) (d : Nat) (hl : PropsA w B l d) (D : Option Addr) (x : List Int) (e : Nat) (hx : x.length ≤ 35184372088832) (hxe : x.length ≤ e) (hq : VL w w.heap.size D (rv x)) (h1 : ¬ p.length > 60) (h2 : fewB 100 n = true) (h3 : ¬ l.length > 40) (h4 : ¬ x.length > 100) (h5 : fewB 100 (.mk false l [] []) = true) (hk : k = 2) : Calls Try.prog 8 #[.int .i64 k, .slice A p.length c, .agg #[.bool lf, .slice P np pc, .slice X nt tc, .slice K nk kc], .slice B l.length d, .slice D x.length e] w (AllTrue w) := by
  obtain ⟨lp, hlp⟩ : ∃ n, p.length = n := ⟨_, rfl⟩
  obtain ⟨ll, hll⟩ : ∃ n, l.length = n := ⟨_, rfl⟩
  obtain ⟨lx, hlx⟩ : ∃ n, x.length = n := ⟨_, rfl⟩
  have hb0 := new_below w (.cells #[.bool lf, .slice P np pc, .slice X nt tc, .slice K nk kc] 27)
  obtain ⟨W0, hW⟩ : ∃ W0, w.alloc (.cells #[.bool lf, .slice P np pc, .slice X nt tc, .slice K nk kc] 27) = W0 := ⟨_, rfl⟩
  have e1 : (w.alloc (.cells #[.bool lf, .slice P np pc, .slice X nt tc, .slice K nk kc] 27)).heap[w.heap.size]? = _ := heap_alloc_new _ _
  rw [hW] at hb0 e1
  have HC4 := hd (fun W (h : Below W0.heap.size W0 W) => blkCells (xkeep e1 h))
  have HP := hd (fun W (h : Below W0.heap.size W0 W) => (hp.later hb0).later h)
  have HN := hd (fun W (h : Below W0.heap.size W0 W) => (hn.later hb0).later h)
  have HL := hd (fun W (h : Below W0.heap.size W0 W) => (hl.q.later hb0).later h)
  have HX := hd (fun W (h : Below W0.heap.size W0 W) => (hq.later hb0).later h)
  have HW := hd hW
  have HBE := hd hb0
  have HBc := hd (Below.refl W0.heap.size W0)
  have HLP := hd hlp
  have HLL := hd hll
  have HLX := hd hlx
  rw [hlp] at hm hc
  rw [hlp, hll, hlx]
  have HM1 := hd hl.wd
  have HM2 := hd (show ll ≤ 4398046511104 from hll ▸ hl.m)
  have HM3 := hd (show ll ≤ d from hll ▸ hl.c)
  rw [hlx] at hx hxe
  have HMX := hd hx
  have HMP := hd hm
  have HCP := hd hc
  have HCX := hd hxe
  have HI := hd hi
  have HK6 := hd hk64
  clear hW hb0 e1 hp hn hl hq hlp hll hlx hm hc hx hxe hi hk64
  obtain ⟨n0, n1, n2, n3, _, _, _, _⟩ := HC4.out _ HBc.out
  have m1 := HMP.out
  have m2 := HM2.out
  have m3 := HMX.out
  rw [HLP.out] at h1
  have elp : decide ((60 : Int) < (lp : Int)) = false := decide_eq_false (by omega)
  have flp : decide (60 < lp) = false := decide_eq_false (by omega)
  have HG1 := hd h2
  have HF1 := hd h2
  clear h2
  rw [HLL.out] at h3
  have ell : decide ((40 : Int) < (ll : Int)) = false := decide_eq_false (by omega)
  have fll : decide (40 < ll) = false := decide_eq_false (by omega)
  rw [HLX.out] at h4
  have elx : decide ((100 : Int) < (lx : Int)) = false := decide_eq_false (by omega)
  have flx : decide (100 < lx) = false := decide_eq_false (by omega)
  have HG2 := hd h5
  clear h5
  subst hk
  obtain ⟨ep, hep⟩ : ∃ b, decide (lp = 0) = b := ⟨_, rfl⟩
  obtain ⟨ex, hex⟩ : ∃ b, decide (lx = 0) = b := ⟨_, rfl⟩
  obtain ⟨eo, heo⟩ : ∃ b, decide (ll = 0) = b := ⟨_, rfl⟩
  obtain ⟨en, hen⟩ : ∃ b, eqT n zeroT = b := ⟨_, rfl⟩
  have HEN := hd hen
  have hp0 : p = [] ↔ ep = true := by rw [← hep, decide_eq_true_iff, ← HLP.out, List.length_eq_zero_iff]
  have hx0 : x = [] ↔ ex = true := by rw [← hex, decide_eq_true_iff, ← HLX.out, List.length_eq_zero_iff]
  have hl0 : l = [] ↔ eo = true := by rw [← heo, decide_eq_true_iff, ← HLL.out, List.length_eq_zero_iff]
  have hn0 : n = zeroT ↔ en = true := by rw [← hen, eqT_iff]
  have HA := hd (form_of (o := { zeroO with k := 2 }) rfl rfl)
  have HQ := hd (form_of (o := { zeroO with k := 2, q := p }) rfl rfl)
  obtain ⟨Fx, hFx⟩ : ∃ F, formE { zeroO with k := 2, x := x } = F := ⟨_, rfl⟩
  have bx : (Fx == 0) = ex := by
    rw [← hFx]
    refine form_bool (o := { zeroO with k := 2, x := x }) rfl ?_
    rw [← hx0]
    simp [fieldsO, zeroO, eq_comm]
  have HXX := hd hFx
  clear hFx
  have HNN := hd (form_of (o := { zeroO with k := 2, n := n }) rfl rfl)
  obtain ⟨Fo, hFo⟩ : ∃ F, formE { zeroO with k := 2, o := l } = F := ⟨_, rfl⟩
  have bo : (Fo == 0) = eo := by
    rw [← hFo]
    refine form_bool (o := { zeroO with k := 2, o := l }) rfl ?_
    rw [← hl0]
    simp [fieldsO, zeroO, eq_comm]
  have HOO := hd hFo
  clear hFo
  obtain ⟨Ft, hFt⟩ : ∃ F, formE { zeroO with k := 2, t := p } = F := ⟨_, rfl⟩
  have bt : (Ft == 0) = ep := by
    rw [← hFt]
    refine form_bool (o := { zeroO with k := 2, t := p }) rfl ?_
    rw [← hp0]
    simp [fieldsO, zeroO, eq_comm]
  have HTT := hd hFt
  clear hFt
  have g1 : ((lp : Int) == 0) = ep := by rw [← hep]; cases h : decide (lp = 0) <;> simp at h ⊢ <;> omega
  have g2 : ((lx : Int) == 0) = ex := by rw [← hex]; cases h : decide (lx = 0) <;> simp at h ⊢ <;> omega
  have g3 : ((ll : Int) == 0) = eo := by rw [← heo]; cases h : decide (ll = 0) <;> simp at h ⊢ <;> omega
  clear hp0 hx0 hl0 hn0 hen
  go_enter Try.func8, Try.ntmps8
  go_upto_region 1 with fail
  rw [HW.out]
  go_wp2_with (first
    | (go_at_call 9; refine Calls.mono (live11_any _) ?_; rintro e w9 ⟨rfl, b9⟩; have HBc := hd (step_b HBc.out b9); clear b9; clear n0 n1 n2 n3; obtain ⟨n0, n1, n2, n3, _, _, _, _⟩ := HC4.out _ HBc.out)
    | (go_at_call 23; have _g := HF1; refine Calls.mono (few_any fd _ _ n 100 (by unfold In64; omega) (HN.out _ HBc.out)) ?_; clear HF1; rintro e w9 ⟨rfl, b9⟩; rw [HG1.out]; have HBc := hd (step_b HBc.out b9); clear b9; clear n0 n1 n2 n3; obtain ⟨n0, n1, n2, n3, _, _, _, _⟩ := HC4.out _ HBc.out)
    | (go_at_call 23; have _g := HG2; refine Calls.mono (few_any 1 _ _ (.mk false l [] []) 100 (by unfold In64; omega) (NodeAt.shut HLL.out.symm rfl rfl (HL.out _ HBc.out) (VL.nil _ _ _) ⟨HM1.out, by rw [HLL.out]; exact HM2.out, by simp, by simp, by rw [HLL.out]; exact HM3.out, by simp, by simp⟩ (fun k m h => by simp at h))) ?_; rintro e w9 ⟨rfl, b9⟩; rw [HG2.out]; have HBc := hd (step_b HBc.out b9); clear b9; clear n0 n1 n2 n3; obtain ⟨n0, n1, n2, n3, _, _, _, _⟩ := HC4.out _ HBc.out)
    | (go_at_call 14; have _g := HA; refine Calls.mono (form_at (c := (OC.mk 2 none 0 0 none 0 0 0 false none 0 0 none 0 0 none 0 0 none 0 0 none 0 0 none 0 0 false none 0 0 0 none 0 0 0 false none 0 0 0 none 0 0 0)) (a := { zeroO with k := 2 }) ((OkA.zero _).setK HK6.out) (by constructor <;> simp [zeroO, zeroS] <;> first | (have := HLP.out; omega) | (have := HLL.out; omega) | (have := HLX.out; omega)) HA.out) ?_; clear HA; rintro e w9 ⟨rfl, b9⟩; have HBc := hd (step_b HBc.out b9); clear b9; clear n0 n1 n2 n3; obtain ⟨n0, n1, n2, n3, _, _, _, _⟩ := HC4.out _ HBc.out)
    | (go_at_call 14; have _g := HQ; refine Calls.mono (form_at (c := (OC.mk 2 A lp c none 0 0 0 false none 0 0 none 0 0 none 0 0 none 0 0 none 0 0 none 0 0 false none 0 0 0 none 0 0 0 false none 0 0 0 none 0 0 0)) (a := { zeroO with k := 2, q := p }) (((OkA.zero _).setK HK6.out).setQ HLP.out HCP.out HMP.out (HP.out _ HBc.out) HI.out) (by constructor <;> simp [zeroO, zeroS] <;> first | (have := HLP.out; omega) | (have := HLL.out; omega) | (have := HLX.out; omega)) HQ.out) ?_; clear HQ; rintro e w9 ⟨rfl, b9⟩; have HBc := hd (step_b HBc.out b9); clear b9; clear n0 n1 n2 n3; obtain ⟨n0, n1, n2, n3, _, _, _, _⟩ := HC4.out _ HBc.out)
    | (go_at_call 14; have _g := HXX; refine Calls.mono (form_at (c := (OC.mk 2 none 0 0 none 0 0 0 false none 0 0 none 0 0 none 0 0 none 0 0 none 0 0 D lx e false none 0 0 0 none 0 0 0 false none 0 0 0 none 0 0 0)) (a := { zeroO with k := 2, x := x }) (((OkA.zero _).setK HK6.out).setX HLX.out HCX.out HMX.out (HX.out _ HBc.out)) (by constructor <;> simp [zeroO, zeroS] <;> first | (have := HLP.out; omega) | (have := HLL.out; omega) | (have := HLX.out; omega)) HXX.out) ?_; clear HXX; rintro e w9 ⟨rfl, b9⟩; have HBc := hd (step_b HBc.out b9); clear b9; clear n0 n1 n2 n3; obtain ⟨n0, n1, n2, n3, _, _, _, _⟩ := HC4.out _ HBc.out)
    | (go_at_call 14; have _g := HNN; refine Calls.mono (form_at (c := (OC.mk 2 none 0 0 none 0 0 0 lf P np pc X nt tc K nk kc none 0 0 none 0 0 none 0 0 false none 0 0 0 none 0 0 0 false none 0 0 0 none 0 0 0)) (a := { zeroO with k := 2, n := n }) (((OkA.zero _).setK HK6.out).setN (HN.out _ HBc.out)) (by constructor <;> simp [zeroO, zeroS] <;> first | (have := HLP.out; omega) | (have := HLL.out; omega) | (have := HLX.out; omega)) HNN.out) ?_; clear HNN; rintro e w9 ⟨rfl, b9⟩; have HBc := hd (step_b HBc.out b9); clear b9; clear n0 n1 n2 n3; obtain ⟨n0, n1, n2, n3, _, _, _, _⟩ := HC4.out _ HBc.out)
    | (go_at_call 14; have _g := HOO; refine Calls.mono (form_at (c := (OC.mk 2 none 0 0 none 0 0 0 false none 0 0 none 0 0 none 0 0 B ll d none 0 0 none 0 0 false none 0 0 0 none 0 0 0 false none 0 0 0 none 0 0 0)) (a := { zeroO with k := 2, o := l }) (((OkA.zero _).setK HK6.out).setO HLL.out HM3.out HM2.out (HL.out _ HBc.out) HM1.out) (by constructor <;> simp [zeroO, zeroS] <;> first | (have := HLP.out; omega) | (have := HLL.out; omega) | (have := HLX.out; omega)) HOO.out) ?_; clear HOO; rintro e w9 ⟨rfl, b9⟩; have HBc := hd (step_b HBc.out b9); clear b9; clear n0 n1 n2 n3; obtain ⟨n0, n1, n2, n3, _, _, _, _⟩ := HC4.out _ HBc.out)
    | (go_at_call 14; have _g := HTT; refine Calls.mono (form_at (c := (OC.mk 2 none 0 0 A lp c 0 false none 0 0 none 0 0 none 0 0 none 0 0 none 0 0 none 0 0 false none 0 0 0 none 0 0 0 false none 0 0 0 none 0 0 0)) (a := { zeroO with k := 2, t := p }) (((OkA.zero _).setK HK6.out).setT HLP.out HCP.out HMP.out (HP.out _ HBc.out) HI.out) (by constructor <;> simp [zeroO, zeroS] <;> first | (have := HLP.out; omega) | (have := HLL.out; omega) | (have := HLX.out; omega)) HTT.out) ?_; clear HTT; rintro e w9 ⟨rfl, b9⟩; have HBc := hd (step_b HBc.out b9); clear b9; clear n0 n1 n2 n3; obtain ⟨n0, n1, n2, n3, _, _, _, _⟩ := HC4.out _ HBc.out)
    | (go_at_call 24; refine Calls.mono (rnsame_any fd 1 _ _ _ _ _ (HN.out _ HBc.out) (zero_node _ _)) ?_; rintro e w9 ⟨rfl, b9⟩; rw [HEN.out]; have HBc := hd (step_b HBc.out b9); clear b9; clear n0 n1 n2 n3; obtain ⟨n0, n1, n2, n3, _, _, _, _⟩ := HC4.out _ HBc.out))
  go_ret
  exact ⟨rfl, HBE.out.trans (HBc.out.mono HBE.out.size)⟩
set_option maxRecDepth 100000 in
set_option maxHeartbeats 8000000 in
theorem bforms_3 (w : World) (k : Int) (hk64 : In64 k) (A : Option Addr) (p : List Int) (c : Nat) (hm : p.length ≤ 9223372036854775807) (hc : p.length ≤ c) (hi : InI p) (hp : IL w w.heap.size A p) (lf : Bool) (P X K : Option Addr) (np pc nt tc nk kc : Nat) (n : NT) (fd : Nat) (hn : NodeAt fd w w.heap.size (.agg #[.bool lf, .slice P np pc, .slice X nt tc, .slice K nk kc]) n) (B : Option Addr) (l : List Pr) (d : Nat) (hl : PropsA w B l d) (D : Option Addr) (x : List Int) (e : Nat) (hx : x.length ≤ 35184372088832) (hxe : x.length ≤ e) (hq : VL w w.heap.size D (rv x)) (h1 : ¬ p.length > 60) (h2 : fewB 100 n = true) (h3 : ¬ l.length > 40) (h4 : ¬ x.length > 100) (h5 : fewB 100 (.mk false l [] []) = true) (hk : k = 3) : Calls Try.prog 8 #[.int .i64 k, .slice A p.length c, .agg #[.bool lf, .slice P np pc, .slice X nt tc, .slice K nk kc], .slice B l.length d, .slice D x.length e] w (AllTrue w) := by
  obtain ⟨lp, hlp⟩ : ∃ n, p.length = n := ⟨_, rfl⟩
  obtain ⟨ll, hll⟩ : ∃ n, l.length = n := ⟨_, rfl⟩
  obtain ⟨lx, hlx⟩ : ∃ n, x.length = n := ⟨_, rfl⟩
  have hb0 := new_below w (.cells #[.bool lf, .slice P np pc, .slice X nt tc, .slice K nk kc] 27)
  obtain ⟨W0, hW⟩ : ∃ W0, w.alloc (.cells #[.bool lf, .slice P np pc, .slice X nt tc, .slice K nk kc] 27) = W0 := ⟨_, rfl⟩
  have e1 : (w.alloc (.cells #[.bool lf, .slice P np pc, .slice X nt tc, .slice K nk kc] 27)).heap[w.heap.size]? = _ := heap_alloc_new _ _
  rw [hW] at hb0 e1
  have HC4 := hd (fun W (h : Below W0.heap.size W0 W) => blkCells (xkeep e1 h))
  have HP := hd (fun W (h : Below W0.heap.size W0 W) => (hp.later hb0).later h)
  have HN := hd (fun W (h : Below W0.heap.size W0 W) => (hn.later hb0).later h)
  have HL := hd (fun W (h : Below W0.heap.size W0 W) => (hl.q.later hb0).later h)
  have HX := hd (fun W (h : Below W0.heap.size W0 W) => (hq.later hb0).later h)
  have HW := hd hW
  have HBE := hd hb0
  have HBc := hd (Below.refl W0.heap.size W0)
  have HLP := hd hlp
  have HLL := hd hll
  have HLX := hd hlx
  rw [hlp] at hm hc
  rw [hlp, hll, hlx]
  have HM1 := hd hl.wd
  have HM2 := hd (show ll ≤ 4398046511104 from hll ▸ hl.m)
  have HM3 := hd (show ll ≤ d from hll ▸ hl.c)
  rw [hlx] at hx hxe
  have HMX := hd hx
  have HMP := hd hm
  have HCP := hd hc
  have HCX := hd hxe
  have HI := hd hi
  have HK6 := hd hk64
  clear hW hb0 e1 hp hn hl hq hlp hll hlx hm hc hx hxe hi hk64
  obtain ⟨n0, n1, n2, n3, _, _, _, _⟩ := HC4.out _ HBc.out
  have m1 := HMP.out
  have m2 := HM2.out
  have m3 := HMX.out
  rw [HLP.out] at h1
  have elp : decide ((60 : Int) < (lp : Int)) = false := decide_eq_false (by omega)
  have flp : decide (60 < lp) = false := decide_eq_false (by omega)
  have HG1 := hd h2
  have HF1 := hd h2
  clear h2
  rw [HLL.out] at h3
  have ell : decide ((40 : Int) < (ll : Int)) = false := decide_eq_false (by omega)
  have fll : decide (40 < ll) = false := decide_eq_false (by omega)
  rw [HLX.out] at h4
  have elx : decide ((100 : Int) < (lx : Int)) = false := decide_eq_false (by omega)
  have flx : decide (100 < lx) = false := decide_eq_false (by omega)
  have HG2 := hd h5
  clear h5
  subst hk
  obtain ⟨ep, hep⟩ : ∃ b, decide (lp = 0) = b := ⟨_, rfl⟩
  obtain ⟨ex, hex⟩ : ∃ b, decide (lx = 0) = b := ⟨_, rfl⟩
  obtain ⟨eo, heo⟩ : ∃ b, decide (ll = 0) = b := ⟨_, rfl⟩
  obtain ⟨en, hen⟩ : ∃ b, eqT n zeroT = b := ⟨_, rfl⟩
  have HEN := hd hen
  have hp0 : p = [] ↔ ep = true := by rw [← hep, decide_eq_true_iff, ← HLP.out, List.length_eq_zero_iff]
  have hx0 : x = [] ↔ ex = true := by rw [← hex, decide_eq_true_iff, ← HLX.out, List.length_eq_zero_iff]
  have hl0 : l = [] ↔ eo = true := by rw [← heo, decide_eq_true_iff, ← HLL.out, List.length_eq_zero_iff]
  have hn0 : n = zeroT ↔ en = true := by rw [← hen, eqT_iff]
  have HA := hd (form_of (o := { zeroO with k := 3 }) rfl rfl)
  have HQ := hd (form_of (o := { zeroO with k := 3, q := p }) rfl rfl)
  obtain ⟨Fx, hFx⟩ : ∃ F, formE { zeroO with k := 3, x := x } = F := ⟨_, rfl⟩
  have bx : (Fx == 0) = ex := by
    rw [← hFx]
    refine form_bool (o := { zeroO with k := 3, x := x }) rfl ?_
    rw [← hx0]
    simp [fieldsO, zeroO, eq_comm]
  have HXX := hd hFx
  clear hFx
  obtain ⟨Fn, hFn⟩ : ∃ F, formE { zeroO with k := 3, n := n } = F := ⟨_, rfl⟩
  have bn : (Fn == 0) = en := by
    rw [← hFn]
    refine form_bool (o := { zeroO with k := 3, n := n }) rfl ?_
    rw [← hn0]
    simp [fieldsO, zeroO, eq_comm]
  have HNN := hd hFn
  clear hFn
  have HOO := hd (form_of (o := { zeroO with k := 3, o := l }) rfl rfl)
  obtain ⟨Ft, hFt⟩ : ∃ F, formE { zeroO with k := 3, t := p } = F := ⟨_, rfl⟩
  have bt : (Ft == 0) = ep := by
    rw [← hFt]
    refine form_bool (o := { zeroO with k := 3, t := p }) rfl ?_
    rw [← hp0]
    simp [fieldsO, zeroO, eq_comm]
  have HTT := hd hFt
  clear hFt
  have g1 : ((lp : Int) == 0) = ep := by rw [← hep]; cases h : decide (lp = 0) <;> simp at h ⊢ <;> omega
  have g2 : ((lx : Int) == 0) = ex := by rw [← hex]; cases h : decide (lx = 0) <;> simp at h ⊢ <;> omega
  have g3 : ((ll : Int) == 0) = eo := by rw [← heo]; cases h : decide (ll = 0) <;> simp at h ⊢ <;> omega
  clear hp0 hx0 hl0 hn0 hen
  go_enter Try.func8, Try.ntmps8
  go_upto_region 1 with fail
  rw [HW.out]
  go_wp2_with (first
    | (go_at_call 9; refine Calls.mono (live11_any _) ?_; rintro e w9 ⟨rfl, b9⟩; have HBc := hd (step_b HBc.out b9); clear b9; clear n0 n1 n2 n3; obtain ⟨n0, n1, n2, n3, _, _, _, _⟩ := HC4.out _ HBc.out)
    | (go_at_call 23; have _g := HF1; refine Calls.mono (few_any fd _ _ n 100 (by unfold In64; omega) (HN.out _ HBc.out)) ?_; clear HF1; rintro e w9 ⟨rfl, b9⟩; rw [HG1.out]; have HBc := hd (step_b HBc.out b9); clear b9; clear n0 n1 n2 n3; obtain ⟨n0, n1, n2, n3, _, _, _, _⟩ := HC4.out _ HBc.out)
    | (go_at_call 23; have _g := HG2; refine Calls.mono (few_any 1 _ _ (.mk false l [] []) 100 (by unfold In64; omega) (NodeAt.shut HLL.out.symm rfl rfl (HL.out _ HBc.out) (VL.nil _ _ _) ⟨HM1.out, by rw [HLL.out]; exact HM2.out, by simp, by simp, by rw [HLL.out]; exact HM3.out, by simp, by simp⟩ (fun k m h => by simp at h))) ?_; rintro e w9 ⟨rfl, b9⟩; rw [HG2.out]; have HBc := hd (step_b HBc.out b9); clear b9; clear n0 n1 n2 n3; obtain ⟨n0, n1, n2, n3, _, _, _, _⟩ := HC4.out _ HBc.out)
    | (go_at_call 14; have _g := HA; refine Calls.mono (form_at (c := (OC.mk 3 none 0 0 none 0 0 0 false none 0 0 none 0 0 none 0 0 none 0 0 none 0 0 none 0 0 false none 0 0 0 none 0 0 0 false none 0 0 0 none 0 0 0)) (a := { zeroO with k := 3 }) ((OkA.zero _).setK HK6.out) (by constructor <;> simp [zeroO, zeroS] <;> first | (have := HLP.out; omega) | (have := HLL.out; omega) | (have := HLX.out; omega)) HA.out) ?_; clear HA; rintro e w9 ⟨rfl, b9⟩; have HBc := hd (step_b HBc.out b9); clear b9; clear n0 n1 n2 n3; obtain ⟨n0, n1, n2, n3, _, _, _, _⟩ := HC4.out _ HBc.out)
    | (go_at_call 14; have _g := HQ; refine Calls.mono (form_at (c := (OC.mk 3 A lp c none 0 0 0 false none 0 0 none 0 0 none 0 0 none 0 0 none 0 0 none 0 0 false none 0 0 0 none 0 0 0 false none 0 0 0 none 0 0 0)) (a := { zeroO with k := 3, q := p }) (((OkA.zero _).setK HK6.out).setQ HLP.out HCP.out HMP.out (HP.out _ HBc.out) HI.out) (by constructor <;> simp [zeroO, zeroS] <;> first | (have := HLP.out; omega) | (have := HLL.out; omega) | (have := HLX.out; omega)) HQ.out) ?_; clear HQ; rintro e w9 ⟨rfl, b9⟩; have HBc := hd (step_b HBc.out b9); clear b9; clear n0 n1 n2 n3; obtain ⟨n0, n1, n2, n3, _, _, _, _⟩ := HC4.out _ HBc.out)
    | (go_at_call 14; have _g := HXX; refine Calls.mono (form_at (c := (OC.mk 3 none 0 0 none 0 0 0 false none 0 0 none 0 0 none 0 0 none 0 0 none 0 0 D lx e false none 0 0 0 none 0 0 0 false none 0 0 0 none 0 0 0)) (a := { zeroO with k := 3, x := x }) (((OkA.zero _).setK HK6.out).setX HLX.out HCX.out HMX.out (HX.out _ HBc.out)) (by constructor <;> simp [zeroO, zeroS] <;> first | (have := HLP.out; omega) | (have := HLL.out; omega) | (have := HLX.out; omega)) HXX.out) ?_; clear HXX; rintro e w9 ⟨rfl, b9⟩; have HBc := hd (step_b HBc.out b9); clear b9; clear n0 n1 n2 n3; obtain ⟨n0, n1, n2, n3, _, _, _, _⟩ := HC4.out _ HBc.out)
    | (go_at_call 14; have _g := HNN; refine Calls.mono (form_at (c := (OC.mk 3 none 0 0 none 0 0 0 lf P np pc X nt tc K nk kc none 0 0 none 0 0 none 0 0 false none 0 0 0 none 0 0 0 false none 0 0 0 none 0 0 0)) (a := { zeroO with k := 3, n := n }) (((OkA.zero _).setK HK6.out).setN (HN.out _ HBc.out)) (by constructor <;> simp [zeroO, zeroS] <;> first | (have := HLP.out; omega) | (have := HLL.out; omega) | (have := HLX.out; omega)) HNN.out) ?_; clear HNN; rintro e w9 ⟨rfl, b9⟩; have HBc := hd (step_b HBc.out b9); clear b9; clear n0 n1 n2 n3; obtain ⟨n0, n1, n2, n3, _, _, _, _⟩ := HC4.out _ HBc.out)
    | (go_at_call 14; have _g := HOO; refine Calls.mono (form_at (c := (OC.mk 3 none 0 0 none 0 0 0 false none 0 0 none 0 0 none 0 0 B ll d none 0 0 none 0 0 false none 0 0 0 none 0 0 0 false none 0 0 0 none 0 0 0)) (a := { zeroO with k := 3, o := l }) (((OkA.zero _).setK HK6.out).setO HLL.out HM3.out HM2.out (HL.out _ HBc.out) HM1.out) (by constructor <;> simp [zeroO, zeroS] <;> first | (have := HLP.out; omega) | (have := HLL.out; omega) | (have := HLX.out; omega)) HOO.out) ?_; clear HOO; rintro e w9 ⟨rfl, b9⟩; have HBc := hd (step_b HBc.out b9); clear b9; clear n0 n1 n2 n3; obtain ⟨n0, n1, n2, n3, _, _, _, _⟩ := HC4.out _ HBc.out)
    | (go_at_call 14; have _g := HTT; refine Calls.mono (form_at (c := (OC.mk 3 none 0 0 A lp c 0 false none 0 0 none 0 0 none 0 0 none 0 0 none 0 0 none 0 0 false none 0 0 0 none 0 0 0 false none 0 0 0 none 0 0 0)) (a := { zeroO with k := 3, t := p }) (((OkA.zero _).setK HK6.out).setT HLP.out HCP.out HMP.out (HP.out _ HBc.out) HI.out) (by constructor <;> simp [zeroO, zeroS] <;> first | (have := HLP.out; omega) | (have := HLL.out; omega) | (have := HLX.out; omega)) HTT.out) ?_; clear HTT; rintro e w9 ⟨rfl, b9⟩; have HBc := hd (step_b HBc.out b9); clear b9; clear n0 n1 n2 n3; obtain ⟨n0, n1, n2, n3, _, _, _, _⟩ := HC4.out _ HBc.out)
    | (go_at_call 24; refine Calls.mono (rnsame_any fd 1 _ _ _ _ _ (HN.out _ HBc.out) (zero_node _ _)) ?_; rintro e w9 ⟨rfl, b9⟩; rw [HEN.out]; have HBc := hd (step_b HBc.out b9); clear b9; clear n0 n1 n2 n3; obtain ⟨n0, n1, n2, n3, _, _, _, _⟩ := HC4.out _ HBc.out))
  go_ret
  exact ⟨rfl, HBE.out.trans (HBc.out.mono HBE.out.size)⟩
set_option maxRecDepth 100000 in
set_option maxHeartbeats 8000000 in
theorem bforms_4 (w : World) (k : Int) (hk64 : In64 k) (A : Option Addr) (p : List Int) (c : Nat) (hm : p.length ≤ 9223372036854775807) (hc : p.length ≤ c) (hi : InI p) (hp : IL w w.heap.size A p) (lf : Bool) (P X K : Option Addr) (np pc nt tc nk kc : Nat) (n : NT) (fd : Nat) (hn : NodeAt fd w w.heap.size (.agg #[.bool lf, .slice P np pc, .slice X nt tc, .slice K nk kc]) n) (B : Option Addr) (l : List Pr) (d : Nat) (hl : PropsA w B l d) (D : Option Addr) (x : List Int) (e : Nat) (hx : x.length ≤ 35184372088832) (hxe : x.length ≤ e) (hq : VL w w.heap.size D (rv x)) (h1 : ¬ p.length > 60) (h2 : fewB 100 n = true) (h3 : ¬ l.length > 40) (h4 : ¬ x.length > 100) (h5 : fewB 100 (.mk false l [] []) = true) (hk : k = 4) : Calls Try.prog 8 #[.int .i64 k, .slice A p.length c, .agg #[.bool lf, .slice P np pc, .slice X nt tc, .slice K nk kc], .slice B l.length d, .slice D x.length e] w (AllTrue w) := by
  obtain ⟨lp, hlp⟩ : ∃ n, p.length = n := ⟨_, rfl⟩
  obtain ⟨ll, hll⟩ : ∃ n, l.length = n := ⟨_, rfl⟩
  obtain ⟨lx, hlx⟩ : ∃ n, x.length = n := ⟨_, rfl⟩
  have hb0 := new_below w (.cells #[.bool lf, .slice P np pc, .slice X nt tc, .slice K nk kc] 27)
  obtain ⟨W0, hW⟩ : ∃ W0, w.alloc (.cells #[.bool lf, .slice P np pc, .slice X nt tc, .slice K nk kc] 27) = W0 := ⟨_, rfl⟩
  have e1 : (w.alloc (.cells #[.bool lf, .slice P np pc, .slice X nt tc, .slice K nk kc] 27)).heap[w.heap.size]? = _ := heap_alloc_new _ _
  rw [hW] at hb0 e1
  have HC4 := hd (fun W (h : Below W0.heap.size W0 W) => blkCells (xkeep e1 h))
  have HP := hd (fun W (h : Below W0.heap.size W0 W) => (hp.later hb0).later h)
  have HN := hd (fun W (h : Below W0.heap.size W0 W) => (hn.later hb0).later h)
  have HL := hd (fun W (h : Below W0.heap.size W0 W) => (hl.q.later hb0).later h)
  have HX := hd (fun W (h : Below W0.heap.size W0 W) => (hq.later hb0).later h)
  have HW := hd hW
  have HBE := hd hb0
  have HBc := hd (Below.refl W0.heap.size W0)
  have HLP := hd hlp
  have HLL := hd hll
  have HLX := hd hlx
  rw [hlp] at hm hc
  rw [hlp, hll, hlx]
  have HM1 := hd hl.wd
  have HM2 := hd (show ll ≤ 4398046511104 from hll ▸ hl.m)
  have HM3 := hd (show ll ≤ d from hll ▸ hl.c)
  rw [hlx] at hx hxe
  have HMX := hd hx
  have HMP := hd hm
  have HCP := hd hc
  have HCX := hd hxe
  have HI := hd hi
  have HK6 := hd hk64
  clear hW hb0 e1 hp hn hl hq hlp hll hlx hm hc hx hxe hi hk64
  obtain ⟨n0, n1, n2, n3, _, _, _, _⟩ := HC4.out _ HBc.out
  have m1 := HMP.out
  have m2 := HM2.out
  have m3 := HMX.out
  rw [HLP.out] at h1
  have elp : decide ((60 : Int) < (lp : Int)) = false := decide_eq_false (by omega)
  have flp : decide (60 < lp) = false := decide_eq_false (by omega)
  have HG1 := hd h2
  have HF1 := hd h2
  clear h2
  rw [HLL.out] at h3
  have ell : decide ((40 : Int) < (ll : Int)) = false := decide_eq_false (by omega)
  have fll : decide (40 < ll) = false := decide_eq_false (by omega)
  rw [HLX.out] at h4
  have elx : decide ((100 : Int) < (lx : Int)) = false := decide_eq_false (by omega)
  have flx : decide (100 < lx) = false := decide_eq_false (by omega)
  have HG2 := hd h5
  clear h5
  subst hk
  obtain ⟨ep, hep⟩ : ∃ b, decide (lp = 0) = b := ⟨_, rfl⟩
  obtain ⟨ex, hex⟩ : ∃ b, decide (lx = 0) = b := ⟨_, rfl⟩
  obtain ⟨eo, heo⟩ : ∃ b, decide (ll = 0) = b := ⟨_, rfl⟩
  obtain ⟨en, hen⟩ : ∃ b, eqT n zeroT = b := ⟨_, rfl⟩
  have HEN := hd hen
  have hp0 : p = [] ↔ ep = true := by rw [← hep, decide_eq_true_iff, ← HLP.out, List.length_eq_zero_iff]
  have hx0 : x = [] ↔ ex = true := by rw [← hex, decide_eq_true_iff, ← HLX.out, List.length_eq_zero_iff]
  have hl0 : l = [] ↔ eo = true := by rw [← heo, decide_eq_true_iff, ← HLL.out, List.length_eq_zero_iff]
  have hn0 : n = zeroT ↔ en = true := by rw [← hen, eqT_iff]
  have HA := hd (form_of (o := { zeroO with k := 4 }) rfl rfl)
  have HQ := hd (form_of (o := { zeroO with k := 4, q := p }) rfl rfl)
  obtain ⟨Fx, hFx⟩ : ∃ F, formE { zeroO with k := 4, x := x } = F := ⟨_, rfl⟩
  have bx : (Fx == 0) = ex := by
    rw [← hFx]
    refine form_bool (o := { zeroO with k := 4, x := x }) rfl ?_
    rw [← hx0]
    simp [fieldsO, zeroO, eq_comm]
  have HXX := hd hFx
  clear hFx
  obtain ⟨Fn, hFn⟩ : ∃ F, formE { zeroO with k := 4, n := n } = F := ⟨_, rfl⟩
  have bn : (Fn == 0) = en := by
    rw [← hFn]
    refine form_bool (o := { zeroO with k := 4, n := n }) rfl ?_
    rw [← hn0]
    simp [fieldsO, zeroO, eq_comm]
  have HNN := hd hFn
  clear hFn
  obtain ⟨Fo, hFo⟩ : ∃ F, formE { zeroO with k := 4, o := l } = F := ⟨_, rfl⟩
  have bo : (Fo == 0) = eo := by
    rw [← hFo]
    refine form_bool (o := { zeroO with k := 4, o := l }) rfl ?_
    rw [← hl0]
    simp [fieldsO, zeroO, eq_comm]
  have HOO := hd hFo
  clear hFo
  obtain ⟨Ft, hFt⟩ : ∃ F, formE { zeroO with k := 4, t := p } = F := ⟨_, rfl⟩
  have bt : (Ft == 0) = ep := by
    rw [← hFt]
    refine form_bool (o := { zeroO with k := 4, t := p }) rfl ?_
    rw [← hp0]
    simp [fieldsO, zeroO, eq_comm]
  have HTT := hd hFt
  clear hFt
  have g1 : ((lp : Int) == 0) = ep := by rw [← hep]; cases h : decide (lp = 0) <;> simp at h ⊢ <;> omega
  have g2 : ((lx : Int) == 0) = ex := by rw [← hex]; cases h : decide (lx = 0) <;> simp at h ⊢ <;> omega
  have g3 : ((ll : Int) == 0) = eo := by rw [← heo]; cases h : decide (ll = 0) <;> simp at h ⊢ <;> omega
  clear hp0 hx0 hl0 hn0 hen
  go_enter Try.func8, Try.ntmps8
  go_upto_region 1 with fail
  rw [HW.out]
  go_wp2_with (first
    | (go_at_call 9; refine Calls.mono (live11_any _) ?_; rintro e w9 ⟨rfl, b9⟩; have HBc := hd (step_b HBc.out b9); clear b9; clear n0 n1 n2 n3; obtain ⟨n0, n1, n2, n3, _, _, _, _⟩ := HC4.out _ HBc.out)
    | (go_at_call 23; have _g := HF1; refine Calls.mono (few_any fd _ _ n 100 (by unfold In64; omega) (HN.out _ HBc.out)) ?_; clear HF1; rintro e w9 ⟨rfl, b9⟩; rw [HG1.out]; have HBc := hd (step_b HBc.out b9); clear b9; clear n0 n1 n2 n3; obtain ⟨n0, n1, n2, n3, _, _, _, _⟩ := HC4.out _ HBc.out)
    | (go_at_call 23; have _g := HG2; refine Calls.mono (few_any 1 _ _ (.mk false l [] []) 100 (by unfold In64; omega) (NodeAt.shut HLL.out.symm rfl rfl (HL.out _ HBc.out) (VL.nil _ _ _) ⟨HM1.out, by rw [HLL.out]; exact HM2.out, by simp, by simp, by rw [HLL.out]; exact HM3.out, by simp, by simp⟩ (fun k m h => by simp at h))) ?_; rintro e w9 ⟨rfl, b9⟩; rw [HG2.out]; have HBc := hd (step_b HBc.out b9); clear b9; clear n0 n1 n2 n3; obtain ⟨n0, n1, n2, n3, _, _, _, _⟩ := HC4.out _ HBc.out)
    | (go_at_call 14; have _g := HA; refine Calls.mono (form_at (c := (OC.mk 4 none 0 0 none 0 0 0 false none 0 0 none 0 0 none 0 0 none 0 0 none 0 0 none 0 0 false none 0 0 0 none 0 0 0 false none 0 0 0 none 0 0 0)) (a := { zeroO with k := 4 }) ((OkA.zero _).setK HK6.out) (by constructor <;> simp [zeroO, zeroS] <;> first | (have := HLP.out; omega) | (have := HLL.out; omega) | (have := HLX.out; omega)) HA.out) ?_; clear HA; rintro e w9 ⟨rfl, b9⟩; have HBc := hd (step_b HBc.out b9); clear b9; clear n0 n1 n2 n3; obtain ⟨n0, n1, n2, n3, _, _, _, _⟩ := HC4.out _ HBc.out)
    | (go_at_call 14; have _g := HQ; refine Calls.mono (form_at (c := (OC.mk 4 A lp c none 0 0 0 false none 0 0 none 0 0 none 0 0 none 0 0 none 0 0 none 0 0 false none 0 0 0 none 0 0 0 false none 0 0 0 none 0 0 0)) (a := { zeroO with k := 4, q := p }) (((OkA.zero _).setK HK6.out).setQ HLP.out HCP.out HMP.out (HP.out _ HBc.out) HI.out) (by constructor <;> simp [zeroO, zeroS] <;> first | (have := HLP.out; omega) | (have := HLL.out; omega) | (have := HLX.out; omega)) HQ.out) ?_; clear HQ; rintro e w9 ⟨rfl, b9⟩; have HBc := hd (step_b HBc.out b9); clear b9; clear n0 n1 n2 n3; obtain ⟨n0, n1, n2, n3, _, _, _, _⟩ := HC4.out _ HBc.out)
    | (go_at_call 14; have _g := HXX; refine Calls.mono (form_at (c := (OC.mk 4 none 0 0 none 0 0 0 false none 0 0 none 0 0 none 0 0 none 0 0 none 0 0 D lx e false none 0 0 0 none 0 0 0 false none 0 0 0 none 0 0 0)) (a := { zeroO with k := 4, x := x }) (((OkA.zero _).setK HK6.out).setX HLX.out HCX.out HMX.out (HX.out _ HBc.out)) (by constructor <;> simp [zeroO, zeroS] <;> first | (have := HLP.out; omega) | (have := HLL.out; omega) | (have := HLX.out; omega)) HXX.out) ?_; clear HXX; rintro e w9 ⟨rfl, b9⟩; have HBc := hd (step_b HBc.out b9); clear b9; clear n0 n1 n2 n3; obtain ⟨n0, n1, n2, n3, _, _, _, _⟩ := HC4.out _ HBc.out)
    | (go_at_call 14; have _g := HNN; refine Calls.mono (form_at (c := (OC.mk 4 none 0 0 none 0 0 0 lf P np pc X nt tc K nk kc none 0 0 none 0 0 none 0 0 false none 0 0 0 none 0 0 0 false none 0 0 0 none 0 0 0)) (a := { zeroO with k := 4, n := n }) (((OkA.zero _).setK HK6.out).setN (HN.out _ HBc.out)) (by constructor <;> simp [zeroO, zeroS] <;> first | (have := HLP.out; omega) | (have := HLL.out; omega) | (have := HLX.out; omega)) HNN.out) ?_; clear HNN; rintro e w9 ⟨rfl, b9⟩; have HBc := hd (step_b HBc.out b9); clear b9; clear n0 n1 n2 n3; obtain ⟨n0, n1, n2, n3, _, _, _, _⟩ := HC4.out _ HBc.out)
    | (go_at_call 14; have _g := HOO; refine Calls.mono (form_at (c := (OC.mk 4 none 0 0 none 0 0 0 false none 0 0 none 0 0 none 0 0 B ll d none 0 0 none 0 0 false none 0 0 0 none 0 0 0 false none 0 0 0 none 0 0 0)) (a := { zeroO with k := 4, o := l }) (((OkA.zero _).setK HK6.out).setO HLL.out HM3.out HM2.out (HL.out _ HBc.out) HM1.out) (by constructor <;> simp [zeroO, zeroS] <;> first | (have := HLP.out; omega) | (have := HLL.out; omega) | (have := HLX.out; omega)) HOO.out) ?_; clear HOO; rintro e w9 ⟨rfl, b9⟩; have HBc := hd (step_b HBc.out b9); clear b9; clear n0 n1 n2 n3; obtain ⟨n0, n1, n2, n3, _, _, _, _⟩ := HC4.out _ HBc.out)
    | (go_at_call 14; have _g := HTT; refine Calls.mono (form_at (c := (OC.mk 4 none 0 0 A lp c 0 false none 0 0 none 0 0 none 0 0 none 0 0 none 0 0 none 0 0 false none 0 0 0 none 0 0 0 false none 0 0 0 none 0 0 0)) (a := { zeroO with k := 4, t := p }) (((OkA.zero _).setK HK6.out).setT HLP.out HCP.out HMP.out (HP.out _ HBc.out) HI.out) (by constructor <;> simp [zeroO, zeroS] <;> first | (have := HLP.out; omega) | (have := HLL.out; omega) | (have := HLX.out; omega)) HTT.out) ?_; clear HTT; rintro e w9 ⟨rfl, b9⟩; have HBc := hd (step_b HBc.out b9); clear b9; clear n0 n1 n2 n3; obtain ⟨n0, n1, n2, n3, _, _, _, _⟩ := HC4.out _ HBc.out)
    | (go_at_call 24; refine Calls.mono (rnsame_any fd 1 _ _ _ _ _ (HN.out _ HBc.out) (zero_node _ _)) ?_; rintro e w9 ⟨rfl, b9⟩; rw [HEN.out]; have HBc := hd (step_b HBc.out b9); clear b9; clear n0 n1 n2 n3; obtain ⟨n0, n1, n2, n3, _, _, _, _⟩ := HC4.out _ HBc.out))
  go_ret
  exact ⟨rfl, HBE.out.trans (HBc.out.mono HBE.out.size)⟩
set_option maxRecDepth 100000 in
set_option maxHeartbeats 8000000 in
theorem bforms_5 (w : World) (k : Int) (hk64 : In64 k) (A : Option Addr) (p : List Int) (c : Nat) (hm : p.length ≤ 9223372036854775807) (hc : p.length ≤ c) (hi : InI p) (hp : IL w w.heap.size A p) (lf : Bool) (P X K : Option Addr) (np pc nt tc nk kc : Nat) (n : NT) (fd : Nat) (hn : NodeAt fd w w.heap.size (.agg #[.bool lf, .slice P np pc, .slice X nt tc, .slice K nk kc]) n) (B : Option Addr) (l : List Pr) (d : Nat) (hl : PropsA w B l d) (D : Option Addr) (x : List Int) (e : Nat) (hx : x.length ≤ 35184372088832) (hxe : x.length ≤ e) (hq : VL w w.heap.size D (rv x)) (h1 : ¬ p.length > 60) (h2 : fewB 100 n = true) (h3 : ¬ l.length > 40) (h4 : ¬ x.length > 100) (h5 : fewB 100 (.mk false l [] []) = true) (hk : k = 5) : Calls Try.prog 8 #[.int .i64 k, .slice A p.length c, .agg #[.bool lf, .slice P np pc, .slice X nt tc, .slice K nk kc], .slice B l.length d, .slice D x.length e] w (AllTrue w) := by
  obtain ⟨lp, hlp⟩ : ∃ n, p.length = n := ⟨_, rfl⟩
  obtain ⟨ll, hll⟩ : ∃ n, l.length = n := ⟨_, rfl⟩
  obtain ⟨lx, hlx⟩ : ∃ n, x.length = n := ⟨_, rfl⟩
  have hb0 := new_below w (.cells #[.bool lf, .slice P np pc, .slice X nt tc, .slice K nk kc] 27)
  obtain ⟨W0, hW⟩ : ∃ W0, w.alloc (.cells #[.bool lf, .slice P np pc, .slice X nt tc, .slice K nk kc] 27) = W0 := ⟨_, rfl⟩
  have e1 : (w.alloc (.cells #[.bool lf, .slice P np pc, .slice X nt tc, .slice K nk kc] 27)).heap[w.heap.size]? = _ := heap_alloc_new _ _
  rw [hW] at hb0 e1
  have HC4 := hd (fun W (h : Below W0.heap.size W0 W) => blkCells (xkeep e1 h))
  have HP := hd (fun W (h : Below W0.heap.size W0 W) => (hp.later hb0).later h)
  have HN := hd (fun W (h : Below W0.heap.size W0 W) => (hn.later hb0).later h)
  have HL := hd (fun W (h : Below W0.heap.size W0 W) => (hl.q.later hb0).later h)
  have HX := hd (fun W (h : Below W0.heap.size W0 W) => (hq.later hb0).later h)
  have HW := hd hW
  have HBE := hd hb0
  have HBc := hd (Below.refl W0.heap.size W0)
  have HLP := hd hlp
  have HLL := hd hll
  have HLX := hd hlx
  rw [hlp] at hm hc
  rw [hlp, hll, hlx]
  have HM1 := hd hl.wd
  have HM2 := hd (show ll ≤ 4398046511104 from hll ▸ hl.m)
  have HM3 := hd (show ll ≤ d from hll ▸ hl.c)
  rw [hlx] at hx hxe
  have HMX := hd hx
  have HMP := hd hm
  have HCP := hd hc
  have HCX := hd hxe
  have HI := hd hi
  have HK6 := hd hk64
  clear hW hb0 e1 hp hn hl hq hlp hll hlx hm hc hx hxe hi hk64
  obtain ⟨n0, n1, n2, n3, _, _, _, _⟩ := HC4.out _ HBc.out
  have m1 := HMP.out
  have m2 := HM2.out
  have m3 := HMX.out
  rw [HLP.out] at h1
  have elp : decide ((60 : Int) < (lp : Int)) = false := decide_eq_false (by omega)
  have flp : decide (60 < lp) = false := decide_eq_false (by omega)
  have HG1 := hd h2
  have HF1 := hd h2
  clear h2
  rw [HLL.out] at h3
  have ell : decide ((40 : Int) < (ll : Int)) = false := decide_eq_false (by omega)
  have fll : decide (40 < ll) = false := decide_eq_false (by omega)
  rw [HLX.out] at h4
  have elx : decide ((100 : Int) < (lx : Int)) = false := decide_eq_false (by omega)
  have flx : decide (100 < lx) = false := decide_eq_false (by omega)
  have HG2 := hd h5
  clear h5
  subst hk
  obtain ⟨ep, hep⟩ : ∃ b, decide (lp = 0) = b := ⟨_, rfl⟩
  obtain ⟨ex, hex⟩ : ∃ b, decide (lx = 0) = b := ⟨_, rfl⟩
  obtain ⟨eo, heo⟩ : ∃ b, decide (ll = 0) = b := ⟨_, rfl⟩
  obtain ⟨en, hen⟩ : ∃ b, eqT n zeroT = b := ⟨_, rfl⟩
  have HEN := hd hen
  have hp0 : p = [] ↔ ep = true := by rw [← hep, decide_eq_true_iff, ← HLP.out, List.length_eq_zero_iff]
  have hx0 : x = [] ↔ ex = true := by rw [← hex, decide_eq_true_iff, ← HLX.out, List.length_eq_zero_iff]
  have hl0 : l = [] ↔ eo = true := by rw [← heo, decide_eq_true_iff, ← HLL.out, List.length_eq_zero_iff]
  have hn0 : n = zeroT ↔ en = true := by rw [← hen, eqT_iff]
  have HA := hd (form_of (o := { zeroO with k := 5 }) rfl rfl)
  have HQ := hd (form_of (o := { zeroO with k := 5, q := p }) rfl rfl)
  obtain ⟨Fx, hFx⟩ : ∃ F, formE { zeroO with k := 5, x := x } = F := ⟨_, rfl⟩
  have bx : (Fx == 0) = ex := by
    rw [← hFx]
    refine form_bool (o := { zeroO with k := 5, x := x }) rfl ?_
    rw [← hx0]
    simp [fieldsO, zeroO, eq_comm]
  have HXX := hd hFx
  clear hFx
  obtain ⟨Fn, hFn⟩ : ∃ F, formE { zeroO with k := 5, n := n } = F := ⟨_, rfl⟩
  have bn : (Fn == 0) = en := by
    rw [← hFn]
    refine form_bool (o := { zeroO with k := 5, n := n }) rfl ?_
    rw [← hn0]
    simp [fieldsO, zeroO, eq_comm]
  have HNN := hd hFn
  clear hFn
  obtain ⟨Fo, hFo⟩ : ∃ F, formE { zeroO with k := 5, o := l } = F := ⟨_, rfl⟩
  have bo : (Fo == 0) = eo := by
    rw [← hFo]
    refine form_bool (o := { zeroO with k := 5, o := l }) rfl ?_
    rw [← hl0]
    simp [fieldsO, zeroO, eq_comm]
  have HOO := hd hFo
  clear hFo
  have HTT := hd (form_of (o := { zeroO with k := 5, t := p }) rfl rfl)
  have g1 : ((lp : Int) == 0) = ep := by rw [← hep]; cases h : decide (lp = 0) <;> simp at h ⊢ <;> omega
  have g2 : ((lx : Int) == 0) = ex := by rw [← hex]; cases h : decide (lx = 0) <;> simp at h ⊢ <;> omega
  have g3 : ((ll : Int) == 0) = eo := by rw [← heo]; cases h : decide (ll = 0) <;> simp at h ⊢ <;> omega
  clear hp0 hx0 hl0 hn0 hen
  go_enter Try.func8, Try.ntmps8
  go_upto_region 1 with fail
  rw [HW.out]
  go_wp2_with (first
    | (go_at_call 9; refine Calls.mono (live11_any _) ?_; rintro e w9 ⟨rfl, b9⟩; have HBc := hd (step_b HBc.out b9); clear b9; clear n0 n1 n2 n3; obtain ⟨n0, n1, n2, n3, _, _, _, _⟩ := HC4.out _ HBc.out)
    | (go_at_call 23; have _g := HF1; refine Calls.mono (few_any fd _ _ n 100 (by unfold In64; omega) (HN.out _ HBc.out)) ?_; clear HF1; rintro e w9 ⟨rfl, b9⟩; rw [HG1.out]; have HBc := hd (step_b HBc.out b9); clear b9; clear n0 n1 n2 n3; obtain ⟨n0, n1, n2, n3, _, _, _, _⟩ := HC4.out _ HBc.out)
    | (go_at_call 23; have _g := HG2; refine Calls.mono (few_any 1 _ _ (.mk false l [] []) 100 (by unfold In64; omega) (NodeAt.shut HLL.out.symm rfl rfl (HL.out _ HBc.out) (VL.nil _ _ _) ⟨HM1.out, by rw [HLL.out]; exact HM2.out, by simp, by simp, by rw [HLL.out]; exact HM3.out, by simp, by simp⟩ (fun k m h => by simp at h))) ?_; rintro e w9 ⟨rfl, b9⟩; rw [HG2.out]; have HBc := hd (step_b HBc.out b9); clear b9; clear n0 n1 n2 n3; obtain ⟨n0, n1, n2, n3, _, _, _, _⟩ := HC4.out _ HBc.out)
    | (go_at_call 14; have _g := HA; refine Calls.mono (form_at (c := (OC.mk 5 none 0 0 none 0 0 0 false none 0 0 none 0 0 none 0 0 none 0 0 none 0 0 none 0 0 false none 0 0 0 none 0 0 0 false none 0 0 0 none 0 0 0)) (a := { zeroO with k := 5 }) ((OkA.zero _).setK HK6.out) (by constructor <;> simp [zeroO, zeroS] <;> first | (have := HLP.out; omega) | (have := HLL.out; omega) | (have := HLX.out; omega)) HA.out) ?_; clear HA; rintro e w9 ⟨rfl, b9⟩; have HBc := hd (step_b HBc.out b9); clear b9; clear n0 n1 n2 n3; obtain ⟨n0, n1, n2, n3, _, _, _, _⟩ := HC4.out _ HBc.out)
    | (go_at_call 14; have _g := HQ; refine Calls.mono (form_at (c := (OC.mk 5 A lp c none 0 0 0 false none 0 0 none 0 0 none 0 0 none 0 0 none 0 0 none 0 0 false none 0 0 0 none 0 0 0 false none 0 0 0 none 0 0 0)) (a := { zeroO with k := 5, q := p }) (((OkA.zero _).setK HK6.out).setQ HLP.out HCP.out HMP.out (HP.out _ HBc.out) HI.out) (by constructor <;> simp [zeroO, zeroS] <;> first | (have := HLP.out; omega) | (have := HLL.out; omega) | (have := HLX.out; omega)) HQ.out) ?_; clear HQ; rintro e w9 ⟨rfl, b9⟩; have HBc := hd (step_b HBc.out b9); clear b9; clear n0 n1 n2 n3; obtain ⟨n0, n1, n2, n3, _, _, _, _⟩ := HC4.out _ HBc.out)
    | (go_at_call 14; have _g := HXX; refine Calls.mono (form_at (c := (OC.mk 5 none 0 0 none 0 0 0 false none 0 0 none 0 0 none 0 0 none 0 0 none 0 0 D lx e false none 0 0 0 none 0 0 0 false none 0 0 0 none 0 0 0)) (a := { zeroO with k := 5, x := x }) (((OkA.zero _).setK HK6.out).setX HLX.out HCX.out HMX.out (HX.out _ HBc.out)) (by constructor <;> simp [zeroO, zeroS] <;> first | (have := HLP.out; omega) | (have := HLL.out; omega) | (have := HLX.out; omega)) HXX.out) ?_; clear HXX; rintro e w9 ⟨rfl, b9⟩; have HBc := hd (step_b HBc.out b9); clear b9; clear n0 n1 n2 n3; obtain ⟨n0, n1, n2, n3, _, _, _, _⟩ := HC4.out _ HBc.out)
    | (go_at_call 14; have _g := HNN; refine Calls.mono (form_at (c := (OC.mk 5 none 0 0 none 0 0 0 lf P np pc X nt tc K nk kc none 0 0 none 0 0 none 0 0 false none 0 0 0 none 0 0 0 false none 0 0 0 none 0 0 0)) (a := { zeroO with k := 5, n := n }) (((OkA.zero _).setK HK6.out).setN (HN.out _ HBc.out)) (by constructor <;> simp [zeroO, zeroS] <;> first | (have := HLP.out; omega) | (have := HLL.out; omega) | (have := HLX.out; omega)) HNN.out) ?_; clear HNN; rintro e w9 ⟨rfl, b9⟩; have HBc := hd (step_b HBc.out b9); clear b9; clear n0 n1 n2 n3; obtain ⟨n0, n1, n2, n3, _, _, _, _⟩ := HC4.out _ HBc.out)
    | (go_at_call 14; have _g := HOO; refine Calls.mono (form_at (c := (OC.mk 5 none 0 0 none 0 0 0 false none 0 0 none 0 0 none 0 0 B ll d none 0 0 none 0 0 false none 0 0 0 none 0 0 0 false none 0 0 0 none 0 0 0)) (a := { zeroO with k := 5, o := l }) (((OkA.zero _).setK HK6.out).setO HLL.out HM3.out HM2.out (HL.out _ HBc.out) HM1.out) (by constructor <;> simp [zeroO, zeroS] <;> first | (have := HLP.out; omega) | (have := HLL.out; omega) | (have := HLX.out; omega)) HOO.out) ?_; clear HOO; rintro e w9 ⟨rfl, b9⟩; have HBc := hd (step_b HBc.out b9); clear b9; clear n0 n1 n2 n3; obtain ⟨n0, n1, n2, n3, _, _, _, _⟩ := HC4.out _ HBc.out)
    | (go_at_call 14; have _g := HTT; refine Calls.mono (form_at (c := (OC.mk 5 none 0 0 A lp c 0 false none 0 0 none 0 0 none 0 0 none 0 0 none 0 0 none 0 0 false none 0 0 0 none 0 0 0 false none 0 0 0 none 0 0 0)) (a := { zeroO with k := 5, t := p }) (((OkA.zero _).setK HK6.out).setT HLP.out HCP.out HMP.out (HP.out _ HBc.out) HI.out) (by constructor <;> simp [zeroO, zeroS] <;> first | (have := HLP.out; omega) | (have := HLL.out; omega) | (have := HLX.out; omega)) HTT.out) ?_; clear HTT; rintro e w9 ⟨rfl, b9⟩; have HBc := hd (step_b HBc.out b9); clear b9; clear n0 n1 n2 n3; obtain ⟨n0, n1, n2, n3, _, _, _, _⟩ := HC4.out _ HBc.out)
    | (go_at_call 24; refine Calls.mono (rnsame_any fd 1 _ _ _ _ _ (HN.out _ HBc.out) (zero_node _ _)) ?_; rintro e w9 ⟨rfl, b9⟩; rw [HEN.out]; have HBc := hd (step_b HBc.out b9); clear b9; clear n0 n1 n2 n3; obtain ⟨n0, n1, n2, n3, _, _, _, _⟩ := HC4.out _ HBc.out))
  go_ret
  exact ⟨rfl, HBE.out.trans (HBc.out.mono HBE.out.size)⟩
set_option maxRecDepth 100000 in
set_option maxHeartbeats 8000000 in
theorem bforms_6 (w : World) (k : Int) (hk64 : In64 k) (A : Option Addr) (p : List Int) (c : Nat) (hm : p.length ≤ 9223372036854775807) (hc : p.length ≤ c) (hi : InI p) (hp : IL w w.heap.size A p) (lf : Bool) (P X K : Option Addr) (np pc nt tc nk kc : Nat) (n : NT) (fd : Nat) (hn : NodeAt fd w w.heap.size (.agg #[.bool lf, .slice P np pc, .slice X nt tc, .slice K nk kc]) n) (B : Option Addr) (l : List Pr) (d : Nat) (hl : PropsA w B l d) (D : Option Addr) (x : List Int) (e : Nat) (hx : x.length ≤ 35184372088832) (hxe : x.length ≤ e) (hq : VL w w.heap.size D (rv x)) (h1 : ¬ p.length > 60) (h2 : fewB 100 n = true) (h3 : ¬ l.length > 40) (h4 : ¬ x.length > 100) (h5 : fewB 100 (.mk false l [] []) = true) (hk : k = 6) : Calls Try.prog 8 #[.int .i64 k, .slice A p.length c, .agg #[.bool lf, .slice P np pc, .slice X nt tc, .slice K nk kc], .slice B l.length d, .slice D x.length e] w (AllTrue w) := by
  obtain ⟨lp, hlp⟩ : ∃ n, p.length = n := ⟨_, rfl⟩
  obtain ⟨ll, hll⟩ : ∃ n, l.length = n := ⟨_, rfl⟩
  obtain ⟨lx, hlx⟩ : ∃ n, x.length = n := ⟨_, rfl⟩
  have hb0 := new_below w (.cells #[.bool lf, .slice P np pc, .slice X nt tc, .slice K nk kc] 27)
  obtain ⟨W0, hW⟩ : ∃ W0, w.alloc (.cells #[.bool lf, .slice P np pc, .slice X nt tc, .slice K nk kc] 27) = W0 := ⟨_, rfl⟩
  have e1 : (w.alloc (.cells #[.bool lf, .slice P np pc, .slice X nt tc, .slice K nk kc] 27)).heap[w.heap.size]? = _ := heap_alloc_new _ _
  rw [hW] at hb0 e1
  have HC4 := hd (fun W (h : Below W0.heap.size W0 W) => blkCells (xkeep e1 h))
  have HP := hd (fun W (h : Below W0.heap.size W0 W) => (hp.later hb0).later h)
  have HN := hd (fun W (h : Below W0.heap.size W0 W) => (hn.later hb0).later h)
  have HL := hd (fun W (h : Below W0.heap.size W0 W) => (hl.q.later hb0).later h)
  have HX := hd (fun W (h : Below W0.heap.size W0 W) => (hq.later hb0).later h)
  have HW := hd hW
  have HBE := hd hb0
  have HBc := hd (Below.refl W0.heap.size W0)
  have HLP := hd hlp
  have HLL := hd hll
  have HLX := hd hlx
  rw [hlp] at hm hc
  rw [hlp, hll, hlx]
  have HM1 := hd hl.wd
  have HM2 := hd (show ll ≤ 4398046511104 from hll ▸ hl.m)
  have HM3 := hd (show ll ≤ d from hll ▸ hl.c)
  rw [hlx] at hx hxe
  have HMX := hd hx
  have HMP := hd hm
  have HCP := hd hc
  have HCX := hd hxe
  have HI := hd hi
  have HK6 := hd hk64
  clear hW hb0 e1 hp hn hl hq hlp hll hlx hm hc hx hxe hi hk64
  obtain ⟨n0, n1, n2, n3, _, _, _, _⟩ := HC4.out _ HBc.out
  have m1 := HMP.out
  have m2 := HM2.out
  have m3 := HMX.out
  rw [HLP.out] at h1
  have elp : decide ((60 : Int) < (lp : Int)) = false := decide_eq_false (by omega)
  have flp : decide (60 < lp) = false := decide_eq_false (by omega)
  have HG1 := hd h2
  have HF1 := hd h2
  clear h2
  rw [HLL.out] at h3
  have ell : decide ((40 : Int) < (ll : Int)) = false := decide_eq_false (by omega)
  have fll : decide (40 < ll) = false := decide_eq_false (by omega)
  rw [HLX.out] at h4
  have elx : decide ((100 : Int) < (lx : Int)) = false := decide_eq_false (by omega)
  have flx : decide (100 < lx) = false := decide_eq_false (by omega)
  have HG2 := hd h5
  clear h5
  subst hk
  obtain ⟨ep, hep⟩ : ∃ b, decide (lp = 0) = b := ⟨_, rfl⟩
  obtain ⟨ex, hex⟩ : ∃ b, decide (lx = 0) = b := ⟨_, rfl⟩
  obtain ⟨eo, heo⟩ : ∃ b, decide (ll = 0) = b := ⟨_, rfl⟩
  obtain ⟨en, hen⟩ : ∃ b, eqT n zeroT = b := ⟨_, rfl⟩
  have HEN := hd hen
  have hp0 : p = [] ↔ ep = true := by rw [← hep, decide_eq_true_iff, ← HLP.out, List.length_eq_zero_iff]
  have hx0 : x = [] ↔ ex = true := by rw [← hex, decide_eq_true_iff, ← HLX.out, List.length_eq_zero_iff]
  have hl0 : l = [] ↔ eo = true := by rw [← heo, decide_eq_true_iff, ← HLL.out, List.length_eq_zero_iff]
  have hn0 : n = zeroT ↔ en = true := by rw [← hen, eqT_iff]
  have HA := hd (form_of (o := { zeroO with k := 6 }) rfl rfl)
  have HQ := hd (form_of (o := { zeroO with k := 6, q := p }) rfl rfl)
  obtain ⟨Fx, hFx⟩ : ∃ F, formE { zeroO with k := 6, x := x } = F := ⟨_, rfl⟩
  have bx : (Fx == 0) = ex := by
    rw [← hFx]
    refine form_bool (o := { zeroO with k := 6, x := x }) rfl ?_
    rw [← hx0]
    simp [fieldsO, zeroO, eq_comm]
  have HXX := hd hFx
  clear hFx
  obtain ⟨Fn, hFn⟩ : ∃ F, formE { zeroO with k := 6, n := n } = F := ⟨_, rfl⟩
  have bn : (Fn == 0) = en := by
    rw [← hFn]
    refine form_bool (o := { zeroO with k := 6, n := n }) rfl ?_
    rw [← hn0]
    simp [fieldsO, zeroO, eq_comm]
  have HNN := hd hFn
  clear hFn
  have HOO := hd (form_of (o := { zeroO with k := 6, o := l }) rfl rfl)
  obtain ⟨Ft, hFt⟩ : ∃ F, formE { zeroO with k := 6, t := p } = F := ⟨_, rfl⟩
  have bt : (Ft == 0) = ep := by
    rw [← hFt]
    refine form_bool (o := { zeroO with k := 6, t := p }) rfl ?_
    rw [← hp0]
    simp [fieldsO, zeroO, eq_comm]
  have HTT := hd hFt
  clear hFt
  have g1 : ((lp : Int) == 0) = ep := by rw [← hep]; cases h : decide (lp = 0) <;> simp at h ⊢ <;> omega
  have g2 : ((lx : Int) == 0) = ex := by rw [← hex]; cases h : decide (lx = 0) <;> simp at h ⊢ <;> omega
  have g3 : ((ll : Int) == 0) = eo := by rw [← heo]; cases h : decide (ll = 0) <;> simp at h ⊢ <;> omega
  clear hp0 hx0 hl0 hn0 hen
  go_enter Try.func8, Try.ntmps8
  go_upto_region 1 with fail
  rw [HW.out]
  go_wp2_with (first
    | (go_at_call 9; refine Calls.mono (live11_any _) ?_; rintro e w9 ⟨rfl, b9⟩; have HBc := hd (step_b HBc.out b9); clear b9; clear n0 n1 n2 n3; obtain ⟨n0, n1, n2, n3, _, _, _, _⟩ := HC4.out _ HBc.out)
    | (go_at_call 23; have _g := HF1; refine Calls.mono (few_any fd _ _ n 100 (by unfold In64; omega) (HN.out _ HBc.out)) ?_; clear HF1; rintro e w9 ⟨rfl, b9⟩; rw [HG1.out]; have HBc := hd (step_b HBc.out b9); clear b9; clear n0 n1 n2 n3; obtain ⟨n0, n1, n2, n3, _, _, _, _⟩ := HC4.out _ HBc.out)
    | (go_at_call 23; have _g := HG2; refine Calls.mono (few_any 1 _ _ (.mk false l [] []) 100 (by unfold In64; omega) (NodeAt.shut HLL.out.symm rfl rfl (HL.out _ HBc.out) (VL.nil _ _ _) ⟨HM1.out, by rw [HLL.out]; exact HM2.out, by simp, by simp, by rw [HLL.out]; exact HM3.out, by simp, by simp⟩ (fun k m h => by simp at h))) ?_; rintro e w9 ⟨rfl, b9⟩; rw [HG2.out]; have HBc := hd (step_b HBc.out b9); clear b9; clear n0 n1 n2 n3; obtain ⟨n0, n1, n2, n3, _, _, _, _⟩ := HC4.out _ HBc.out)
    | (go_at_call 14; have _g := HA; refine Calls.mono (form_at (c := (OC.mk 6 none 0 0 none 0 0 0 false none 0 0 none 0 0 none 0 0 none 0 0 none 0 0 none 0 0 false none 0 0 0 none 0 0 0 false none 0 0 0 none 0 0 0)) (a := { zeroO with k := 6 }) ((OkA.zero _).setK HK6.out) (by constructor <;> simp [zeroO, zeroS] <;> first | (have := HLP.out; omega) | (have := HLL.out; omega) | (have := HLX.out; omega)) HA.out) ?_; clear HA; rintro e w9 ⟨rfl, b9⟩; have HBc := hd (step_b HBc.out b9); clear b9; clear n0 n1 n2 n3; obtain ⟨n0, n1, n2, n3, _, _, _, _⟩ := HC4.out _ HBc.out)
    | (go_at_call 14; have _g := HQ; refine Calls.mono (form_at (c := (OC.mk 6 A lp c none 0 0 0 false none 0 0 none 0 0 none 0 0 none 0 0 none 0 0 none 0 0 false none 0 0 0 none 0 0 0 false none 0 0 0 none 0 0 0)) (a := { zeroO with k := 6, q := p }) (((OkA.zero _).setK HK6.out).setQ HLP.out HCP.out HMP.out (HP.out _ HBc.out) HI.out) (by constructor <;> simp [zeroO, zeroS] <;> first | (have := HLP.out; omega) | (have := HLL.out; omega) | (have := HLX.out; omega)) HQ.out) ?_; clear HQ; rintro e w9 ⟨rfl, b9⟩; have HBc := hd (step_b HBc.out b9); clear b9; clear n0 n1 n2 n3; obtain ⟨n0, n1, n2, n3, _, _, _, _⟩ := HC4.out _ HBc.out)
    | (go_at_call 14; have _g := HXX; refine Calls.mono (form_at (c := (OC.mk 6 none 0 0 none 0 0 0 false none 0 0 none 0 0 none 0 0 none 0 0 none 0 0 D lx e false none 0 0 0 none 0 0 0 false none 0 0 0 none 0 0 0)) (a := { zeroO with k := 6, x := x }) (((OkA.zero _).setK HK6.out).setX HLX.out HCX.out HMX.out (HX.out _ HBc.out)) (by constructor <;> simp [zeroO, zeroS] <;> first | (have := HLP.out; omega) | (have := HLL.out; omega) | (have := HLX.out; omega)) HXX.out) ?_; clear HXX; rintro e w9 ⟨rfl, b9⟩; have HBc := hd (step_b HBc.out b9); clear b9; clear n0 n1 n2 n3; obtain ⟨n0, n1, n2, n3, _, _, _, _⟩ := HC4.out _ HBc.out)
    | (go_at_call 14; have _g := HNN; refine Calls.mono (form_at (c := (OC.mk 6 none 0 0 none 0 0 0 lf P np pc X nt tc K nk kc none 0 0 none 0 0 none 0 0 false none 0 0 0 none 0 0 0 false none 0 0 0 none 0 0 0)) (a := { zeroO with k := 6, n := n }) (((OkA.zero _).setK HK6.out).setN (HN.out _ HBc.out)) (by constructor <;> simp [zeroO, zeroS] <;> first | (have := HLP.out; omega) | (have := HLL.out; omega) | (have := HLX.out; omega)) HNN.out) ?_; clear HNN; rintro e w9 ⟨rfl, b9⟩; have HBc := hd (step_b HBc.out b9); clear b9; clear n0 n1 n2 n3; obtain ⟨n0, n1, n2, n3, _, _, _, _⟩ := HC4.out _ HBc.out)
    | (go_at_call 14; have _g := HOO; refine Calls.mono (form_at (c := (OC.mk 6 none 0 0 none 0 0 0 false none 0 0 none 0 0 none 0 0 B ll d none 0 0 none 0 0 false none 0 0 0 none 0 0 0 false none 0 0 0 none 0 0 0)) (a := { zeroO with k := 6, o := l }) (((OkA.zero _).setK HK6.out).setO HLL.out HM3.out HM2.out (HL.out _ HBc.out) HM1.out) (by constructor <;> simp [zeroO, zeroS] <;> first | (have := HLP.out; omega) | (have := HLL.out; omega) | (have := HLX.out; omega)) HOO.out) ?_; clear HOO; rintro e w9 ⟨rfl, b9⟩; have HBc := hd (step_b HBc.out b9); clear b9; clear n0 n1 n2 n3; obtain ⟨n0, n1, n2, n3, _, _, _, _⟩ := HC4.out _ HBc.out)
    | (go_at_call 14; have _g := HTT; refine Calls.mono (form_at (c := (OC.mk 6 none 0 0 A lp c 0 false none 0 0 none 0 0 none 0 0 none 0 0 none 0 0 none 0 0 false none 0 0 0 none 0 0 0 false none 0 0 0 none 0 0 0)) (a := { zeroO with k := 6, t := p }) (((OkA.zero _).setK HK6.out).setT HLP.out HCP.out HMP.out (HP.out _ HBc.out) HI.out) (by constructor <;> simp [zeroO, zeroS] <;> first | (have := HLP.out; omega) | (have := HLL.out; omega) | (have := HLX.out; omega)) HTT.out) ?_; clear HTT; rintro e w9 ⟨rfl, b9⟩; have HBc := hd (step_b HBc.out b9); clear b9; clear n0 n1 n2 n3; obtain ⟨n0, n1, n2, n3, _, _, _, _⟩ := HC4.out _ HBc.out)
    | (go_at_call 24; refine Calls.mono (rnsame_any fd 1 _ _ _ _ _ (HN.out _ HBc.out) (zero_node _ _)) ?_; rintro e w9 ⟨rfl, b9⟩; rw [HEN.out]; have HBc := hd (step_b HBc.out b9); clear b9; clear n0 n1 n2 n3; obtain ⟨n0, n1, n2, n3, _, _, _, _⟩ := HC4.out _ HBc.out))
  go_ret
  exact ⟨rfl, HBE.out.trans (HBc.out.mono HBE.out.size)⟩
set_option maxRecDepth 100000 in
set_option maxHeartbeats 8000000 in
theorem bforms_7 (w : World) (k : Int) (hk64 : In64 k) (A : Option Addr) (p : List Int) (c : Nat) (hm : p.length ≤ 9223372036854775807) (hc : p.length ≤ c) (hi : InI p) (hp : IL w w.heap.size A p) (lf : Bool) (P X K : Option Addr) (np pc nt tc nk kc : Nat) (n : NT) (fd : Nat) (hn : NodeAt fd w w.heap.size (.agg #[.bool lf, .slice P np pc, .slice X nt tc, .slice K nk kc]) n) (B : Option Addr) (l : List Pr) (d : Nat) (hl : PropsA w B l d) (D : Option Addr) (x : List Int) (e : Nat) (hx : x.length ≤ 35184372088832) (hxe : x.length ≤ e) (hq : VL w w.heap.size D (rv x)) (h1 : ¬ p.length > 60) (h2 : fewB 100 n = true) (h3 : ¬ l.length > 40) (h4 : ¬ x.length > 100) (h5 : fewB 100 (.mk false l [] []) = true) (hk : k = 7) : Calls Try.prog 8 #[.int .i64 k, .slice A p.length c, .agg #[.bool lf, .slice P np pc, .slice X nt tc, .slice K nk kc], .slice B l.length d, .slice D x.length e] w (AllTrue w) := by
  obtain ⟨lp, hlp⟩ : ∃ n, p.length = n := ⟨_, rfl⟩
  obtain ⟨ll, hll⟩ : ∃ n, l.length = n := ⟨_, rfl⟩
  obtain ⟨lx, hlx⟩ : ∃ n, x.length = n := ⟨_, rfl⟩
  have hb0 := new_below w (.cells #[.bool lf, .slice P np pc, .slice X nt tc, .slice K nk kc] 27)
  obtain ⟨W0, hW⟩ : ∃ W0, w.alloc (.cells #[.bool lf, .slice P np pc, .slice X nt tc, .slice K nk kc] 27) = W0 := ⟨_, rfl⟩
  have e1 : (w.alloc (.cells #[.bool lf, .slice P np pc, .slice X nt tc, .slice K nk kc] 27)).heap[w.heap.size]? = _ := heap_alloc_new _ _
  rw [hW] at hb0 e1
  have HC4 := hd (fun W (h : Below W0.heap.size W0 W) => blkCells (xkeep e1 h))
  have HP := hd (fun W (h : Below W0.heap.size W0 W) => (hp.later hb0).later h)
  have HN := hd (fun W (h : Below W0.heap.size W0 W) => (hn.later hb0).later h)
  have HL := hd (fun W (h : Below W0.heap.size W0 W) => (hl.q.later hb0).later h)
  have HX := hd (fun W (h : Below W0.heap.size W0 W) => (hq.later hb0).later h)
  have HW := hd hW
  have HBE := hd hb0
  have HBc := hd (Below.refl W0.heap.size W0)
  have HLP := hd hlp
  have HLL := hd hll
  have HLX := hd hlx
  rw [hlp] at hm hc
  rw [hlp, hll, hlx]
  have HM1 := hd hl.wd
  have HM2 := hd (show ll ≤ 4398046511104 from hll ▸ hl.m)
  have HM3 := hd (show ll ≤ d from hll ▸ hl.c)
  rw [hlx] at hx hxe
  have HMX := hd hx
  have HMP := hd hm
  have HCP := hd hc
  have HCX := hd hxe
  have HI := hd hi
  have HK6 := hd hk64
  clear hW hb0 e1 hp hn hl hq hlp hll hlx hm hc hx hxe hi hk64
  obtain ⟨n0, n1, n2, n3, _, _, _, _⟩ := HC4.out _ HBc.out
  have m1 := HMP.out
  have m2 := HM2.out
  have m3 := HMX.out
  rw [HLP.out] at h1
  have elp : decide ((60 : Int) < (lp : Int)) = false := decide_eq_false (by omega)
  have flp : decide (60 < lp) = false := decide_eq_false (by omega)
  have HG1 := hd h2
  have HF1 := hd h2
  clear h2
  rw [HLL.out] at h3
  have ell : decide ((40 : Int) < (ll : Int)) = false := decide_eq_false (by omega)
  have fll : decide (40 < ll) = false := decide_eq_false (by omega)
  rw [HLX.out] at h4
  have elx : decide ((100 : Int) < (lx : Int)) = false := decide_eq_false (by omega)
  have flx : decide (100 < lx) = false := decide_eq_false (by omega)
  have HG2 := hd h5
  clear h5
  subst hk
  obtain ⟨ep, hep⟩ : ∃ b, decide (lp = 0) = b := ⟨_, rfl⟩
  obtain ⟨ex, hex⟩ : ∃ b, decide (lx = 0) = b := ⟨_, rfl⟩
  obtain ⟨eo, heo⟩ : ∃ b, decide (ll = 0) = b := ⟨_, rfl⟩
  obtain ⟨en, hen⟩ : ∃ b, eqT n zeroT = b := ⟨_, rfl⟩
  have HEN := hd hen
  have hp0 : p = [] ↔ ep = true := by rw [← hep, decide_eq_true_iff, ← HLP.out, List.length_eq_zero_iff]
  have hx0 : x = [] ↔ ex = true := by rw [← hex, decide_eq_true_iff, ← HLX.out, List.length_eq_zero_iff]
  have hl0 : l = [] ↔ eo = true := by rw [← heo, decide_eq_true_iff, ← HLL.out, List.length_eq_zero_iff]
  have hn0 : n = zeroT ↔ en = true := by rw [← hen, eqT_iff]
  have HA := hd (form_of (o := { zeroO with k := 7 }) rfl rfl)
  have HQ := hd (form_of (o := { zeroO with k := 7, q := p }) rfl rfl)
  have HXX := hd (form_of (o := { zeroO with k := 7, x := x }) rfl rfl)
  obtain ⟨Fn, hFn⟩ : ∃ F, formE { zeroO with k := 7, n := n } = F := ⟨_, rfl⟩
  have bn : (Fn == 0) = en := by
    rw [← hFn]
    refine form_bool (o := { zeroO with k := 7, n := n }) rfl ?_
    rw [← hn0]
    simp [fieldsO, zeroO, eq_comm]
  have HNN := hd hFn
  clear hFn
  obtain ⟨Fo, hFo⟩ : ∃ F, formE { zeroO with k := 7, o := l } = F := ⟨_, rfl⟩
  have bo : (Fo == 0) = eo := by
    rw [← hFo]
    refine form_bool (o := { zeroO with k := 7, o := l }) rfl ?_
    rw [← hl0]
    simp [fieldsO, zeroO, eq_comm]
  have HOO := hd hFo
  clear hFo
  obtain ⟨Ft, hFt⟩ : ∃ F, formE { zeroO with k := 7, t := p } = F := ⟨_, rfl⟩
  have bt : (Ft == 0) = ep := by
    rw [← hFt]
    refine form_bool (o := { zeroO with k := 7, t := p }) rfl ?_
    rw [← hp0]
    simp [fieldsO, zeroO, eq_comm]
  have HTT := hd hFt
  clear hFt
  have g1 : ((lp : Int) == 0) = ep := by rw [← hep]; cases h : decide (lp = 0) <;> simp at h ⊢ <;> omega
  have g2 : ((lx : Int) == 0) = ex := by rw [← hex]; cases h : decide (lx = 0) <;> simp at h ⊢ <;> omega
  have g3 : ((ll : Int) == 0) = eo := by rw [← heo]; cases h : decide (ll = 0) <;> simp at h ⊢ <;> omega
  clear hp0 hx0 hl0 hn0 hen
  go_enter Try.func8, Try.ntmps8
  go_upto_region 1 with fail
  rw [HW.out]
  go_wp2_with (first
    | (go_at_call 9; refine Calls.mono (live11_any _) ?_; rintro e w9 ⟨rfl, b9⟩; have HBc := hd (step_b HBc.out b9); clear b9; clear n0 n1 n2 n3; obtain ⟨n0, n1, n2, n3, _, _, _, _⟩ := HC4.out _ HBc.out)
    | (go_at_call 23; have _g := HF1; refine Calls.mono (few_any fd _ _ n 100 (by unfold In64; omega) (HN.out _ HBc.out)) ?_; clear HF1; rintro e w9 ⟨rfl, b9⟩; rw [HG1.out]; have HBc := hd (step_b HBc.out b9); clear b9; clear n0 n1 n2 n3; obtain ⟨n0, n1, n2, n3, _, _, _, _⟩ := HC4.out _ HBc.out)
    | (go_at_call 23; have _g := HG2; refine Calls.mono (few_any 1 _ _ (.mk false l [] []) 100 (by unfold In64; omega) (NodeAt.shut HLL.out.symm rfl rfl (HL.out _ HBc.out) (VL.nil _ _ _) ⟨HM1.out, by rw [HLL.out]; exact HM2.out, by simp, by simp, by rw [HLL.out]; exact HM3.out, by simp, by simp⟩ (fun k m h => by simp at h))) ?_; rintro e w9 ⟨rfl, b9⟩; rw [HG2.out]; have HBc := hd (step_b HBc.out b9); clear b9; clear n0 n1 n2 n3; obtain ⟨n0, n1, n2, n3, _, _, _, _⟩ := HC4.out _ HBc.out)
    | (go_at_call 14; have _g := HA; refine Calls.mono (form_at (c := (OC.mk 7 none 0 0 none 0 0 0 false none 0 0 none 0 0 none 0 0 none 0 0 none 0 0 none 0 0 false none 0 0 0 none 0 0 0 false none 0 0 0 none 0 0 0)) (a := { zeroO with k := 7 }) ((OkA.zero _).setK HK6.out) (by constructor <;> simp [zeroO, zeroS] <;> first | (have := HLP.out; omega) | (have := HLL.out; omega) | (have := HLX.out; omega)) HA.out) ?_; clear HA; rintro e w9 ⟨rfl, b9⟩; have HBc := hd (step_b HBc.out b9); clear b9; clear n0 n1 n2 n3; obtain ⟨n0, n1, n2, n3, _, _, _, _⟩ := HC4.out _ HBc.out)
    | (go_at_call 14; have _g := HQ; refine Calls.mono (form_at (c := (OC.mk 7 A lp c none 0 0 0 false none 0 0 none 0 0 none 0 0 none 0 0 none 0 0 none 0 0 false none 0 0 0 none 0 0 0 false none 0 0 0 none 0 0 0)) (a := { zeroO with k := 7, q := p }) (((OkA.zero _).setK HK6.out).setQ HLP.out HCP.out HMP.out (HP.out _ HBc.out) HI.out) (by constructor <;> simp [zeroO, zeroS] <;> first | (have := HLP.out; omega) | (have := HLL.out; omega) | (have := HLX.out; omega)) HQ.out) ?_; clear HQ; rintro e w9 ⟨rfl, b9⟩; have HBc := hd (step_b HBc.out b9); clear b9; clear n0 n1 n2 n3; obtain ⟨n0, n1, n2, n3, _, _, _, _⟩ := HC4.out _ HBc.out)
    | (go_at_call 14; have _g := HXX; refine Calls.mono (form_at (c := (OC.mk 7 none 0 0 none 0 0 0 false none 0 0 none 0 0 none 0 0 none 0 0 none 0 0 D lx e false none 0 0 0 none 0 0 0 false none 0 0 0 none 0 0 0)) (a := { zeroO with k := 7, x := x }) (((OkA.zero _).setK HK6.out).setX HLX.out HCX.out HMX.out (HX.out _ HBc.out)) (by constructor <;> simp [zeroO, zeroS] <;> first | (have := HLP.out; omega) | (have := HLL.out; omega) | (have := HLX.out; omega)) HXX.out) ?_; clear HXX; rintro e w9 ⟨rfl, b9⟩; have HBc := hd (step_b HBc.out b9); clear b9; clear n0 n1 n2 n3; obtain ⟨n0, n1, n2, n3, _, _, _, _⟩ := HC4.out _ HBc.out)
    | (go_at_call 14; have _g := HNN; refine Calls.mono (form_at (c := (OC.mk 7 none 0 0 none 0 0 0 lf P np pc X nt tc K nk kc none 0 0 none 0 0 none 0 0 false none 0 0 0 none 0 0 0 false none 0 0 0 none 0 0 0)) (a := { zeroO with k := 7, n := n }) (((OkA.zero _).setK HK6.out).setN (HN.out _ HBc.out)) (by constructor <;> simp [zeroO, zeroS] <;> first | (have := HLP.out; omega) | (have := HLL.out; omega) | (have := HLX.out; omega)) HNN.out) ?_; clear HNN; rintro e w9 ⟨rfl, b9⟩; have HBc := hd (step_b HBc.out b9); clear b9; clear n0 n1 n2 n3; obtain ⟨n0, n1, n2, n3, _, _, _, _⟩ := HC4.out _ HBc.out)
    | (go_at_call 14; have _g := HOO; refine Calls.mono (form_at (c := (OC.mk 7 none 0 0 none 0 0 0 false none 0 0 none 0 0 none 0 0 B ll d none 0 0 none 0 0 false none 0 0 0 none 0 0 0 false none 0 0 0 none 0 0 0)) (a := { zeroO with k := 7, o := l }) (((OkA.zero _).setK HK6.out).setO HLL.out HM3.out HM2.out (HL.out _ HBc.out) HM1.out) (by constructor <;> simp [zeroO, zeroS] <;> first | (have := HLP.out; omega) | (have := HLL.out; omega) | (have := HLX.out; omega)) HOO.out) ?_; clear HOO; rintro e w9 ⟨rfl, b9⟩; have HBc := hd (step_b HBc.out b9); clear b9; clear n0 n1 n2 n3; obtain ⟨n0, n1, n2, n3, _, _, _, _⟩ := HC4.out _ HBc.out)
    | (go_at_call 14; have _g := HTT; refine Calls.mono (form_at (c := (OC.mk 7 none 0 0 A lp c 0 false none 0 0 none 0 0 none 0 0 none 0 0 none 0 0 none 0 0 false none 0 0 0 none 0 0 0 false none 0 0 0 none 0 0 0)) (a := { zeroO with k := 7, t := p }) (((OkA.zero _).setK HK6.out).setT HLP.out HCP.out HMP.out (HP.out _ HBc.out) HI.out) (by constructor <;> simp [zeroO, zeroS] <;> first | (have := HLP.out; omega) | (have := HLL.out; omega) | (have := HLX.out; omega)) HTT.out) ?_; clear HTT; rintro e w9 ⟨rfl, b9⟩; have HBc := hd (step_b HBc.out b9); clear b9; clear n0 n1 n2 n3; obtain ⟨n0, n1, n2, n3, _, _, _, _⟩ := HC4.out _ HBc.out)
    | (go_at_call 24; refine Calls.mono (rnsame_any fd 1 _ _ _ _ _ (HN.out _ HBc.out) (zero_node _ _)) ?_; rintro e w9 ⟨rfl, b9⟩; rw [HEN.out]; have HBc := hd (step_b HBc.out b9); clear b9; clear n0 n1 n2 n3; obtain ⟨n0, n1, n2, n3, _, _, _, _⟩ := HC4.out _ HBc.out))
  go_ret
  exact ⟨rfl, HBE.out.trans (HBc.out.mono HBE.out.size)⟩
set_option maxRecDepth 100000 in
set_option maxHeartbeats 8000000 in
theorem bforms_8 (w : World) (k : Int) (hk64 : In64 k) (A : Option Addr) (p : List Int) (c : Nat) (hm : p.length ≤ 9223372036854775807) (hc : p.length ≤ c) (hi : InI p) (hp : IL w w.heap.size A p) (lf : Bool) (P X K : Option Addr) (np pc nt tc nk kc : Nat) (n : NT) (fd : Nat) (hn : NodeAt fd w w.heap.size (.agg #[.bool lf, .slice P np pc, .slice X nt tc, .slice K nk kc]) n) (B : Option Addr) (l : List Pr) (d : Nat) (hl : PropsA w B l d) (D : Option Addr) (x : List Int) (e : Nat) (hx : x.length ≤ 35184372088832) (hxe : x.length ≤ e) (hq : VL w w.heap.size D (rv x)) (h1 : ¬ p.length > 60) (h2 : fewB 100 n = true) (h3 : ¬ l.length > 40) (h4 : ¬ x.length > 100) (h5 : fewB 100 (.mk false l [] []) = true) (hk : k = 8) : Calls Try.prog 8 #[.int .i64 k, .slice A p.length c, .agg #[.bool lf, .slice P np pc, .slice X nt tc, .slice K nk kc], .slice B l.length d, .slice D x.length e] w (AllTrue w) := by
  obtain ⟨lp, hlp⟩ : ∃ n, p.length = n := ⟨_, rfl⟩
  obtain ⟨ll, hll⟩ : ∃ n, l.length = n := ⟨_, rfl⟩
  obtain ⟨lx, hlx⟩ : ∃ n, x.length = n := ⟨_, rfl⟩
  have hb0 := new_below w (.cells #[.bool lf, .slice P np pc, .slice X nt tc, .slice K nk kc] 27)
  obtain ⟨W0, hW⟩ : ∃ W0, w.alloc (.cells #[.bool lf, .slice P np pc, .slice X nt tc, .slice K nk kc] 27) = W0 := ⟨_, rfl⟩
  have e1 : (w.alloc (.cells #[.bool lf, .slice P np pc, .slice X nt tc, .slice K nk kc] 27)).heap[w.heap.size]? = _ := heap_alloc_new _ _
  rw [hW] at hb0 e1
  have HC4 := hd (fun W (h : Below W0.heap.size W0 W) => blkCells (xkeep e1 h))
  have HP := hd (fun W (h : Below W0.heap.size W0 W) => (hp.later hb0).later h)
  have HN := hd (fun W (h : Below W0.heap.size W0 W) => (hn.later hb0).later h)
  have HL := hd (fun W (h : Below W0.heap.size W0 W) => (hl.q.later hb0).later h)
  have HX := hd (fun W (h : Below W0.heap.size W0 W) => (hq.later hb0).later h)
  have HW := hd hW
  have HBE := hd hb0
  have HBc := hd (Below.refl W0.heap.size W0)
  have HLP := hd hlp
  have HLL := hd hll
  have HLX := hd hlx
  rw [hlp] at hm hc
  rw [hlp, hll, hlx]
  have HM1 := hd hl.wd
  have HM2 := hd (show ll ≤ 4398046511104 from hll ▸ hl.m)
  have HM3 := hd (show ll ≤ d from hll ▸ hl.c)
  rw [hlx] at hx hxe
  have HMX := hd hx
  have HMP := hd hm
  have HCP := hd hc
  have HCX := hd hxe
  have HI := hd hi
  have HK6 := hd hk64
  clear hW hb0 e1 hp hn hl hq hlp hll hlx hm hc hx hxe hi hk64
  obtain ⟨n0, n1, n2, n3, _, _, _, _⟩ := HC4.out _ HBc.out
  have m1 := HMP.out
  have m2 := HM2.out
  have m3 := HMX.out
  rw [HLP.out] at h1
  have elp : decide ((60 : Int) < (lp : Int)) = false := decide_eq_false (by omega)
  have flp : decide (60 < lp) = false := decide_eq_false (by omega)
  have HG1 := hd h2
  have HF1 := hd h2
  clear h2
  rw [HLL.out] at h3
  have ell : decide ((40 : Int) < (ll : Int)) = false := decide_eq_false (by omega)
  have fll : decide (40 < ll) = false := decide_eq_false (by omega)
  rw [HLX.out] at h4
  have elx : decide ((100 : Int) < (lx : Int)) = false := decide_eq_false (by omega)
  have flx : decide (100 < lx) = false := decide_eq_false (by omega)
  have HG2 := hd h5
  clear h5
  subst hk
  obtain ⟨ep, hep⟩ : ∃ b, decide (lp = 0) = b := ⟨_, rfl⟩
  obtain ⟨ex, hex⟩ : ∃ b, decide (lx = 0) = b := ⟨_, rfl⟩
  obtain ⟨eo, heo⟩ : ∃ b, decide (ll = 0) = b := ⟨_, rfl⟩
  obtain ⟨en, hen⟩ : ∃ b, eqT n zeroT = b := ⟨_, rfl⟩
  have HEN := hd hen
  have hp0 : p = [] ↔ ep = true := by rw [← hep, decide_eq_true_iff, ← HLP.out, List.length_eq_zero_iff]
  have hx0 : x = [] ↔ ex = true := by rw [← hex, decide_eq_true_iff, ← HLX.out, List.length_eq_zero_iff]
  have hl0 : l = [] ↔ eo = true := by rw [← heo, decide_eq_true_iff, ← HLL.out, List.length_eq_zero_iff]
  have hn0 : n = zeroT ↔ en = true := by rw [← hen, eqT_iff]
  have HA := hd (form_of (o := { zeroO with k := 8 }) rfl rfl)
  have HQ := hd (form_of (o := { zeroO with k := 8, q := p }) rfl rfl)
  have HXX := hd (form_of (o := { zeroO with k := 8, x := x }) rfl rfl)
  obtain ⟨Fn, hFn⟩ : ∃ F, formE { zeroO with k := 8, n := n } = F := ⟨_, rfl⟩
  have bn : (Fn == 0) = en := by
    rw [← hFn]
    refine form_bool (o := { zeroO with k := 8, n := n }) rfl ?_
    rw [← hn0]
    simp [fieldsO, zeroO, eq_comm]
  have HNN := hd hFn
  clear hFn
  obtain ⟨Fo, hFo⟩ : ∃ F, formE { zeroO with k := 8, o := l } = F := ⟨_, rfl⟩
  have bo : (Fo == 0) = eo := by
    rw [← hFo]
    refine form_bool (o := { zeroO with k := 8, o := l }) rfl ?_
    rw [← hl0]
    simp [fieldsO, zeroO, eq_comm]
  have HOO := hd hFo
  clear hFo
  obtain ⟨Ft, hFt⟩ : ∃ F, formE { zeroO with k := 8, t := p } = F := ⟨_, rfl⟩
  have bt : (Ft == 0) = ep := by
    rw [← hFt]
    refine form_bool (o := { zeroO with k := 8, t := p }) rfl ?_
    rw [← hp0]
    simp [fieldsO, zeroO, eq_comm]
  have HTT := hd hFt
  clear hFt
  have g1 : ((lp : Int) == 0) = ep := by rw [← hep]; cases h : decide (lp = 0) <;> simp at h ⊢ <;> omega
  have g2 : ((lx : Int) == 0) = ex := by rw [← hex]; cases h : decide (lx = 0) <;> simp at h ⊢ <;> omega
  have g3 : ((ll : Int) == 0) = eo := by rw [← heo]; cases h : decide (ll = 0) <;> simp at h ⊢ <;> omega
  clear hp0 hx0 hl0 hn0 hen
  go_enter Try.func8, Try.ntmps8
  go_upto_region 1 with fail
  rw [HW.out]
  go_wp2_with (first
    | (go_at_call 9; refine Calls.mono (live11_any _) ?_; rintro e w9 ⟨rfl, b9⟩; have HBc := hd (step_b HBc.out b9); clear b9; clear n0 n1 n2 n3; obtain ⟨n0, n1, n2, n3, _, _, _, _⟩ := HC4.out _ HBc.out)
    | (go_at_call 23; have _g := HF1; refine Calls.mono (few_any fd _ _ n 100 (by unfold In64; omega) (HN.out _ HBc.out)) ?_; clear HF1; rintro e w9 ⟨rfl, b9⟩; rw [HG1.out]; have HBc := hd (step_b HBc.out b9); clear b9; clear n0 n1 n2 n3; obtain ⟨n0, n1, n2, n3, _, _, _, _⟩ := HC4.out _ HBc.out)
    | (go_at_call 23; have _g := HG2; refine Calls.mono (few_any 1 _ _ (.mk false l [] []) 100 (by unfold In64; omega) (NodeAt.shut HLL.out.symm rfl rfl (HL.out _ HBc.out) (VL.nil _ _ _) ⟨HM1.out, by rw [HLL.out]; exact HM2.out, by simp, by simp, by rw [HLL.out]; exact HM3.out, by simp, by simp⟩ (fun k m h => by simp at h))) ?_; rintro e w9 ⟨rfl, b9⟩; rw [HG2.out]; have HBc := hd (step_b HBc.out b9); clear b9; clear n0 n1 n2 n3; obtain ⟨n0, n1, n2, n3, _, _, _, _⟩ := HC4.out _ HBc.out)
    | (go_at_call 14; have _g := HA; refine Calls.mono (form_at (c := (OC.mk 8 none 0 0 none 0 0 0 false none 0 0 none 0 0 none 0 0 none 0 0 none 0 0 none 0 0 false none 0 0 0 none 0 0 0 false none 0 0 0 none 0 0 0)) (a := { zeroO with k := 8 }) ((OkA.zero _).setK HK6.out) (by constructor <;> simp [zeroO, zeroS] <;> first | (have := HLP.out; omega) | (have := HLL.out; omega) | (have := HLX.out; omega)) HA.out) ?_; clear HA; rintro e w9 ⟨rfl, b9⟩; have HBc := hd (step_b HBc.out b9); clear b9; clear n0 n1 n2 n3; obtain ⟨n0, n1, n2, n3, _, _, _, _⟩ := HC4.out _ HBc.out)
    | (go_at_call 14; have _g := HQ; refine Calls.mono (form_at (c := (OC.mk 8 A lp c none 0 0 0 false none 0 0 none 0 0 none 0 0 none 0 0 none 0 0 none 0 0 false none 0 0 0 none 0 0 0 false none 0 0 0 none 0 0 0)) (a := { zeroO with k := 8, q := p }) (((OkA.zero _).setK HK6.out).setQ HLP.out HCP.out HMP.out (HP.out _ HBc.out) HI.out) (by constructor <;> simp [zeroO, zeroS] <;> first | (have := HLP.out; omega) | (have := HLL.out; omega) | (have := HLX.out; omega)) HQ.out) ?_; clear HQ; rintro e w9 ⟨rfl, b9⟩; have HBc := hd (step_b HBc.out b9); clear b9; clear n0 n1 n2 n3; obtain ⟨n0, n1, n2, n3, _, _, _, _⟩ := HC4.out _ HBc.out)
    | (go_at_call 14; have _g := HXX; refine Calls.mono (form_at (c := (OC.mk 8 none 0 0 none 0 0 0 false none 0 0 none 0 0 none 0 0 none 0 0 none 0 0 D lx e false none 0 0 0 none 0 0 0 false none 0 0 0 none 0 0 0)) (a := { zeroO with k := 8, x := x }) (((OkA.zero _).setK HK6.out).setX HLX.out HCX.out HMX.out (HX.out _ HBc.out)) (by constructor <;> simp [zeroO, zeroS] <;> first | (have := HLP.out; omega) | (have := HLL.out; omega) | (have := HLX.out; omega)) HXX.out) ?_; clear HXX; rintro e w9 ⟨rfl, b9⟩; have HBc := hd (step_b HBc.out b9); clear b9; clear n0 n1 n2 n3; obtain ⟨n0, n1, n2, n3, _, _, _, _⟩ := HC4.out _ HBc.out)
    | (go_at_call 14; have _g := HNN; refine Calls.mono (form_at (c := (OC.mk 8 none 0 0 none 0 0 0 lf P np pc X nt tc K nk kc none 0 0 none 0 0 none 0 0 false none 0 0 0 none 0 0 0 false none 0 0 0 none 0 0 0)) (a := { zeroO with k := 8, n := n }) (((OkA.zero _).setK HK6.out).setN (HN.out _ HBc.out)) (by constructor <;> simp [zeroO, zeroS] <;> first | (have := HLP.out; omega) | (have := HLL.out; omega) | (have := HLX.out; omega)) HNN.out) ?_; clear HNN; rintro e w9 ⟨rfl, b9⟩; have HBc := hd (step_b HBc.out b9); clear b9; clear n0 n1 n2 n3; obtain ⟨n0, n1, n2, n3, _, _, _, _⟩ := HC4.out _ HBc.out)
    | (go_at_call 14; have _g := HOO; refine Calls.mono (form_at (c := (OC.mk 8 none 0 0 none 0 0 0 false none 0 0 none 0 0 none 0 0 B ll d none 0 0 none 0 0 false none 0 0 0 none 0 0 0 false none 0 0 0 none 0 0 0)) (a := { zeroO with k := 8, o := l }) (((OkA.zero _).setK HK6.out).setO HLL.out HM3.out HM2.out (HL.out _ HBc.out) HM1.out) (by constructor <;> simp [zeroO, zeroS] <;> first | (have := HLP.out; omega) | (have := HLL.out; omega) | (have := HLX.out; omega)) HOO.out) ?_; clear HOO; rintro e w9 ⟨rfl, b9⟩; have HBc := hd (step_b HBc.out b9); clear b9; clear n0 n1 n2 n3; obtain ⟨n0, n1, n2, n3, _, _, _, _⟩ := HC4.out _ HBc.out)
    | (go_at_call 14; have _g := HTT; refine Calls.mono (form_at (c := (OC.mk 8 none 0 0 A lp c 0 false none 0 0 none 0 0 none 0 0 none 0 0 none 0 0 none 0 0 false none 0 0 0 none 0 0 0 false none 0 0 0 none 0 0 0)) (a := { zeroO with k := 8, t := p }) (((OkA.zero _).setK HK6.out).setT HLP.out HCP.out HMP.out (HP.out _ HBc.out) HI.out) (by constructor <;> simp [zeroO, zeroS] <;> first | (have := HLP.out; omega) | (have := HLL.out; omega) | (have := HLX.out; omega)) HTT.out) ?_; clear HTT; rintro e w9 ⟨rfl, b9⟩; have HBc := hd (step_b HBc.out b9); clear b9; clear n0 n1 n2 n3; obtain ⟨n0, n1, n2, n3, _, _, _, _⟩ := HC4.out _ HBc.out)
    | (go_at_call 24; refine Calls.mono (rnsame_any fd 1 _ _ _ _ _ (HN.out _ HBc.out) (zero_node _ _)) ?_; rintro e w9 ⟨rfl, b9⟩; rw [HEN.out]; have HBc := hd (step_b HBc.out b9); clear b9; clear n0 n1 n2 n3; obtain ⟨n0, n1, n2, n3, _, _, _, _⟩ := HC4.out _ HBc.out))
  go_ret
  exact ⟨rfl, HBE.out.trans (HBc.out.mono HBE.out.size)⟩
set_option maxRecDepth 100000 in
set_option maxHeartbeats 8000000 in
theorem bforms_9 (w : World) (k : Int) (hk64 : In64 k) (A : Option Addr) (p : List Int) (c : Nat) (hm : p.length ≤ 9223372036854775807) (hc : p.length ≤ c) (hi : InI p) (hp : IL w w.heap.size A p) (lf : Bool) (P X K : Option Addr) (np pc nt tc nk kc : Nat) (n : NT) (fd : Nat) (hn : NodeAt fd w w.heap.size (.agg #[.bool lf, .slice P np pc, .slice X nt tc, .slice K nk kc]) n) (B : Option Addr) (l : List Pr) (d : Nat) (hl : PropsA w B l d) (D : Option Addr) (x : List Int) (e : Nat) (hx : x.length ≤ 35184372088832) (hxe : x.length ≤ e) (hq : VL w w.heap.size D (rv x)) (h1 : ¬ p.length > 60) (h2 : fewB 100 n = true) (h3 : ¬ l.length > 40) (h4 : ¬ x.length > 100) (h5 : fewB 100 (.mk false l [] []) = true) (hk : k = 9) : Calls Try.prog 8 #[.int .i64 k, .slice A p.length c, .agg #[.bool lf, .slice P np pc, .slice X nt tc, .slice K nk kc], .slice B l.length d, .slice D x.length e] w (AllTrue w) := by
  obtain ⟨lp, hlp⟩ : ∃ n, p.length = n := ⟨_, rfl⟩
  obtain ⟨ll, hll⟩ : ∃ n, l.length = n := ⟨_, rfl⟩
  obtain ⟨lx, hlx⟩ : ∃ n, x.length = n := ⟨_, rfl⟩
  have hb0 := new_below w (.cells #[.bool lf, .slice P np pc, .slice X nt tc, .slice K nk kc] 27)
  obtain ⟨W0, hW⟩ : ∃ W0, w.alloc (.cells #[.bool lf, .slice P np pc, .slice X nt tc, .slice K nk kc] 27) = W0 := ⟨_, rfl⟩
  have e1 : (w.alloc (.cells #[.bool lf, .slice P np pc, .slice X nt tc, .slice K nk kc] 27)).heap[w.heap.size]? = _ := heap_alloc_new _ _
  rw [hW] at hb0 e1
  have HC4 := hd (fun W (h : Below W0.heap.size W0 W) => blkCells (xkeep e1 h))
  have HP := hd (fun W (h : Below W0.heap.size W0 W) => (hp.later hb0).later h)
  have HN := hd (fun W (h : Below W0.heap.size W0 W) => (hn.later hb0).later h)
  have HL := hd (fun W (h : Below W0.heap.size W0 W) => (hl.q.later hb0).later h)
  have HX := hd (fun W (h : Below W0.heap.size W0 W) => (hq.later hb0).later h)
  have HW := hd hW
  have HBE := hd hb0
  have HBc := hd (Below.refl W0.heap.size W0)
  have HLP := hd hlp
  have HLL := hd hll
  have HLX := hd hlx
  rw [hlp] at hm hc
  rw [hlp, hll, hlx]
  have HM1 := hd hl.wd
  have HM2 := hd (show ll ≤ 4398046511104 from hll ▸ hl.m)
  have HM3 := hd (show ll ≤ d from hll ▸ hl.c)
  rw [hlx] at hx hxe
  have HMX := hd hx
  have HMP := hd hm
  have HCP := hd hc
  have HCX := hd hxe
  have HI := hd hi
  have HK6 := hd hk64
  clear hW hb0 e1 hp hn hl hq hlp hll hlx hm hc hx hxe hi hk64
  obtain ⟨n0, n1, n2, n3, _, _, _, _⟩ := HC4.out _ HBc.out
  have m1 := HMP.out
  have m2 := HM2.out
  have m3 := HMX.out
  rw [HLP.out] at h1
  have elp : decide ((60 : Int) < (lp : Int)) = false := decide_eq_false (by omega)
  have flp : decide (60 < lp) = false := decide_eq_false (by omega)
  have HG1 := hd h2
  have HF1 := hd h2
  clear h2
  rw [HLL.out] at h3
  have ell : decide ((40 : Int) < (ll : Int)) = false := decide_eq_false (by omega)
  have fll : decide (40 < ll) = false := decide_eq_false (by omega)
  rw [HLX.out] at h4
  have elx : decide ((100 : Int) < (lx : Int)) = false := decide_eq_false (by omega)
  have flx : decide (100 < lx) = false := decide_eq_false (by omega)
  have HG2 := hd h5
  clear h5
  subst hk
  obtain ⟨ep, hep⟩ : ∃ b, decide (lp = 0) = b := ⟨_, rfl⟩
  obtain ⟨ex, hex⟩ : ∃ b, decide (lx = 0) = b := ⟨_, rfl⟩
  obtain ⟨eo, heo⟩ : ∃ b, decide (ll = 0) = b := ⟨_, rfl⟩
  obtain ⟨en, hen⟩ : ∃ b, eqT n zeroT = b := ⟨_, rfl⟩
  have HEN := hd hen
  have hp0 : p = [] ↔ ep = true := by rw [← hep, decide_eq_true_iff, ← HLP.out, List.length_eq_zero_iff]
  have hx0 : x = [] ↔ ex = true := by rw [← hex, decide_eq_true_iff, ← HLX.out, List.length_eq_zero_iff]
  have hl0 : l = [] ↔ eo = true := by rw [← heo, decide_eq_true_iff, ← HLL.out, List.length_eq_zero_iff]
  have hn0 : n = zeroT ↔ en = true := by rw [← hen, eqT_iff]
  have HA := hd (form_of (o := { zeroO with k := 9 }) rfl rfl)
  obtain ⟨Fq, hFq⟩ : ∃ F, formE { zeroO with k := 9, q := p } = F := ⟨_, rfl⟩
  have bq : (Fq == 0) = ep := by
    rw [← hFq]
    refine form_bool (o := { zeroO with k := 9, q := p }) rfl ?_
    rw [← hp0]
    simp [fieldsO, zeroO, eq_comm]
  have HQ := hd hFq
  clear hFq
  obtain ⟨Fx, hFx⟩ : ∃ F, formE { zeroO with k := 9, x := x } = F := ⟨_, rfl⟩
  have bx : (Fx == 0) = ex := by
    rw [← hFx]
    refine form_bool (o := { zeroO with k := 9, x := x }) rfl ?_
    rw [← hx0]
    simp [fieldsO, zeroO, eq_comm]
  have HXX := hd hFx
  clear hFx
  obtain ⟨Fn, hFn⟩ : ∃ F, formE { zeroO with k := 9, n := n } = F := ⟨_, rfl⟩
  have bn : (Fn == 0) = en := by
    rw [← hFn]
    refine form_bool (o := { zeroO with k := 9, n := n }) rfl ?_
    rw [← hn0]
    simp [fieldsO, zeroO, eq_comm]
  have HNN := hd hFn
  clear hFn
  obtain ⟨Fo, hFo⟩ : ∃ F, formE { zeroO with k := 9, o := l } = F := ⟨_, rfl⟩
  have bo : (Fo == 0) = eo := by
    rw [← hFo]
    refine form_bool (o := { zeroO with k := 9, o := l }) rfl ?_
    rw [← hl0]
    simp [fieldsO, zeroO, eq_comm]
  have HOO := hd hFo
  clear hFo
  obtain ⟨Ft, hFt⟩ : ∃ F, formE { zeroO with k := 9, t := p } = F := ⟨_, rfl⟩
  have bt : (Ft == 0) = ep := by
    rw [← hFt]
    refine form_bool (o := { zeroO with k := 9, t := p }) rfl ?_
    rw [← hp0]
    simp [fieldsO, zeroO, eq_comm]
  have HTT := hd hFt
  clear hFt
  have g1 : ((lp : Int) == 0) = ep := by rw [← hep]; cases h : decide (lp = 0) <;> simp at h ⊢ <;> omega
  have g2 : ((lx : Int) == 0) = ex := by rw [← hex]; cases h : decide (lx = 0) <;> simp at h ⊢ <;> omega
  have g3 : ((ll : Int) == 0) = eo := by rw [← heo]; cases h : decide (ll = 0) <;> simp at h ⊢ <;> omega
  clear hp0 hx0 hl0 hn0 hen
  go_enter Try.func8, Try.ntmps8
  go_upto_region 1 with fail
  rw [HW.out]
  go_wp2_with (first
    | (go_at_call 9; refine Calls.mono (live11_any _) ?_; rintro e w9 ⟨rfl, b9⟩; have HBc := hd (step_b HBc.out b9); clear b9; clear n0 n1 n2 n3; obtain ⟨n0, n1, n2, n3, _, _, _, _⟩ := HC4.out _ HBc.out)
    | (go_at_call 23; have _g := HF1; refine Calls.mono (few_any fd _ _ n 100 (by unfold In64; omega) (HN.out _ HBc.out)) ?_; clear HF1; rintro e w9 ⟨rfl, b9⟩; rw [HG1.out]; have HBc := hd (step_b HBc.out b9); clear b9; clear n0 n1 n2 n3; obtain ⟨n0, n1, n2, n3, _, _, _, _⟩ := HC4.out _ HBc.out)
    | (go_at_call 23; have _g := HG2; refine Calls.mono (few_any 1 _ _ (.mk false l [] []) 100 (by unfold In64; omega) (NodeAt.shut HLL.out.symm rfl rfl (HL.out _ HBc.out) (VL.nil _ _ _) ⟨HM1.out, by rw [HLL.out]; exact HM2.out, by simp, by simp, by rw [HLL.out]; exact HM3.out, by simp, by simp⟩ (fun k m h => by simp at h))) ?_; rintro e w9 ⟨rfl, b9⟩; rw [HG2.out]; have HBc := hd (step_b HBc.out b9); clear b9; clear n0 n1 n2 n3; obtain ⟨n0, n1, n2, n3, _, _, _, _⟩ := HC4.out _ HBc.out)
    | (go_at_call 14; have _g := HA; refine Calls.mono (form_at (c := (OC.mk 9 none 0 0 none 0 0 0 false none 0 0 none 0 0 none 0 0 none 0 0 none 0 0 none 0 0 false none 0 0 0 none 0 0 0 false none 0 0 0 none 0 0 0)) (a := { zeroO with k := 9 }) ((OkA.zero _).setK HK6.out) (by constructor <;> simp [zeroO, zeroS] <;> first | (have := HLP.out; omega) | (have := HLL.out; omega) | (have := HLX.out; omega)) HA.out) ?_; clear HA; rintro e w9 ⟨rfl, b9⟩; have HBc := hd (step_b HBc.out b9); clear b9; clear n0 n1 n2 n3; obtain ⟨n0, n1, n2, n3, _, _, _, _⟩ := HC4.out _ HBc.out)
    | (go_at_call 14; have _g := HQ; refine Calls.mono (form_at (c := (OC.mk 9 A lp c none 0 0 0 false none 0 0 none 0 0 none 0 0 none 0 0 none 0 0 none 0 0 false none 0 0 0 none 0 0 0 false none 0 0 0 none 0 0 0)) (a := { zeroO with k := 9, q := p }) (((OkA.zero _).setK HK6.out).setQ HLP.out HCP.out HMP.out (HP.out _ HBc.out) HI.out) (by constructor <;> simp [zeroO, zeroS] <;> first | (have := HLP.out; omega) | (have := HLL.out; omega) | (have := HLX.out; omega)) HQ.out) ?_; clear HQ; rintro e w9 ⟨rfl, b9⟩; have HBc := hd (step_b HBc.out b9); clear b9; clear n0 n1 n2 n3; obtain ⟨n0, n1, n2, n3, _, _, _, _⟩ := HC4.out _ HBc.out)
    | (go_at_call 14; have _g := HXX; refine Calls.mono (form_at (c := (OC.mk 9 none 0 0 none 0 0 0 false none 0 0 none 0 0 none 0 0 none 0 0 none 0 0 D lx e false none 0 0 0 none 0 0 0 false none 0 0 0 none 0 0 0)) (a := { zeroO with k := 9, x := x }) (((OkA.zero _).setK HK6.out).setX HLX.out HCX.out HMX.out (HX.out _ HBc.out)) (by constructor <;> simp [zeroO, zeroS] <;> first | (have := HLP.out; omega) | (have := HLL.out; omega) | (have := HLX.out; omega)) HXX.out) ?_; clear HXX; rintro e w9 ⟨rfl, b9⟩; have HBc := hd (step_b HBc.out b9); clear b9; clear n0 n1 n2 n3; obtain ⟨n0, n1, n2, n3, _, _, _, _⟩ := HC4.out _ HBc.out)
    | (go_at_call 14; have _g := HNN; refine Calls.mono (form_at (c := (OC.mk 9 none 0 0 none 0 0 0 lf P np pc X nt tc K nk kc none 0 0 none 0 0 none 0 0 false none 0 0 0 none 0 0 0 false none 0 0 0 none 0 0 0)) (a := { zeroO with k := 9, n := n }) (((OkA.zero _).setK HK6.out).setN (HN.out _ HBc.out)) (by constructor <;> simp [zeroO, zeroS] <;> first | (have := HLP.out; omega) | (have := HLL.out; omega) | (have := HLX.out; omega)) HNN.out) ?_; clear HNN; rintro e w9 ⟨rfl, b9⟩; have HBc := hd (step_b HBc.out b9); clear b9; clear n0 n1 n2 n3; obtain ⟨n0, n1, n2, n3, _, _, _, _⟩ := HC4.out _ HBc.out)
    | (go_at_call 14; have _g := HOO; refine Calls.mono (form_at (c := (OC.mk 9 none 0 0 none 0 0 0 false none 0 0 none 0 0 none 0 0 B ll d none 0 0 none 0 0 false none 0 0 0 none 0 0 0 false none 0 0 0 none 0 0 0)) (a := { zeroO with k := 9, o := l }) (((OkA.zero _).setK HK6.out).setO HLL.out HM3.out HM2.out (HL.out _ HBc.out) HM1.out) (by constructor <;> simp [zeroO, zeroS] <;> first | (have := HLP.out; omega) | (have := HLL.out; omega) | (have := HLX.out; omega)) HOO.out) ?_; clear HOO; rintro e w9 ⟨rfl, b9⟩; have HBc := hd (step_b HBc.out b9); clear b9; clear n0 n1 n2 n3; obtain ⟨n0, n1, n2, n3, _, _, _, _⟩ := HC4.out _ HBc.out)
    | (go_at_call 14; have _g := HTT; refine Calls.mono (form_at (c := (OC.mk 9 none 0 0 A lp c 0 false none 0 0 none 0 0 none 0 0 none 0 0 none 0 0 none 0 0 false none 0 0 0 none 0 0 0 false none 0 0 0 none 0 0 0)) (a := { zeroO with k := 9, t := p }) (((OkA.zero _).setK HK6.out).setT HLP.out HCP.out HMP.out (HP.out _ HBc.out) HI.out) (by constructor <;> simp [zeroO, zeroS] <;> first | (have := HLP.out; omega) | (have := HLL.out; omega) | (have := HLX.out; omega)) HTT.out) ?_; clear HTT; rintro e w9 ⟨rfl, b9⟩; have HBc := hd (step_b HBc.out b9); clear b9; clear n0 n1 n2 n3; obtain ⟨n0, n1, n2, n3, _, _, _, _⟩ := HC4.out _ HBc.out)
    | (go_at_call 24; refine Calls.mono (rnsame_any fd 1 _ _ _ _ _ (HN.out _ HBc.out) (zero_node _ _)) ?_; rintro e w9 ⟨rfl, b9⟩; rw [HEN.out]; have HBc := hd (step_b HBc.out b9); clear b9; clear n0 n1 n2 n3; obtain ⟨n0, n1, n2, n3, _, _, _, _⟩ := HC4.out _ HBc.out))
  go_ret
  exact ⟨rfl, HBE.out.trans (HBc.out.mono HBE.out.size)⟩
set_option maxRecDepth 4000 in
theorem bforms_law (w : World) (k : Int) (hwf : (Lit.int .i64 k).wf = true) (A : Option Addr) (p : List Int) (c : Nat) (hm : p.length ≤ 9223372036854775807) (hc : p.length ≤ c) (hi0 : Ints p) (hp : IL w w.heap.size A p) (v : Value) (n : NT) (fd : Nat) (hn : NodeAt fd w w.heap.size v n) (B : Option Addr) (l : List Pr) (d : Nat) (hwd : Wide l) (hl1 : l.length ≤ 4398046511104) (hl2 : l.length ≤ d) (hl3 : PL w w.heap.size B l) (D : Option Addr) (x : List Int) (e : Nat) (hx : x.length ≤ 35184372088832) (hxe : x.length ≤ e) (hq : VL w w.heap.size D (rv x)) :
    Calls Try.prog 8 #[.int .i64 k, .slice A p.length c, v, .slice B l.length d, .slice D x.length e] w (AllTrue w) := by
  have hk64 := wf_in hwf
  have hi : InI p := fun j hj => (hi0 j hj).symm
  obtain ⟨lf, P, np, pc, X, nt, tc, K, nk, kc, rfl⟩ := hn.val
  have hl : PropsA w B l d := ⟨hwd, hl1, hl2, hl3⟩
  by_cases h1 : p.length > 60
  · exact bforms_e0 w k hk64 A p c hm hc hi hp lf P X K np pc nt tc nk kc n fd hn B l d hl D x e hx hxe hq h1
  cases h2 : fewB 100 n
  · exact bforms_e1 w k hk64 A p c hm hc hi hp lf P X K np pc nt tc nk kc n fd hn B l d hl D x e hx hxe hq h1 h2
  by_cases h3 : l.length > 40
  · exact bforms_e2 w k hk64 A p c hm hc hi hp lf P X K np pc nt tc nk kc n fd hn B l d hl D x e hx hxe hq h1 h2 h3
  by_cases h4 : x.length > 100
  · exact bforms_e3 w k hk64 A p c hm hc hi hp lf P X K np pc nt tc nk kc n fd hn B l d hl D x e hx hxe hq h1 h2 h3 h4
  cases h5 : fewB 100 (.mk false l [] [])
  · exact bforms_e4 w k hk64 A p c hm hc hi hp lf P X K np pc nt tc nk kc n fd hn B l d hl D x e hx hxe hq h1 h2 h3 h4 h5
  by_cases ha : 1 ≤ k
  · by_cases hb : k ≤ 9
    · rcases kinds ha hb with h | h | h | h | h | h | h | h | h
      · exact bforms_1 w k hk64 A p c hm hc hi hp lf P X K np pc nt tc nk kc n fd hn B l d hl D x e hx hxe hq h1 h2 h3 h4 h5 h
      · exact bforms_2 w k hk64 A p c hm hc hi hp lf P X K np pc nt tc nk kc n fd hn B l d hl D x e hx hxe hq h1 h2 h3 h4 h5 h
      · exact bforms_3 w k hk64 A p c hm hc hi hp lf P X K np pc nt tc nk kc n fd hn B l d hl D x e hx hxe hq h1 h2 h3 h4 h5 h
      · exact bforms_4 w k hk64 A p c hm hc hi hp lf P X K np pc nt tc nk kc n fd hn B l d hl D x e hx hxe hq h1 h2 h3 h4 h5 h
      · exact bforms_5 w k hk64 A p c hm hc hi hp lf P X K np pc nt tc nk kc n fd hn B l d hl D x e hx hxe hq h1 h2 h3 h4 h5 h
      · exact bforms_6 w k hk64 A p c hm hc hi hp lf P X K np pc nt tc nk kc n fd hn B l d hl D x e hx hxe hq h1 h2 h3 h4 h5 h
      · exact bforms_7 w k hk64 A p c hm hc hi hp lf P X K np pc nt tc nk kc n fd hn B l d hl D x e hx hxe hq h1 h2 h3 h4 h5 h
      · exact bforms_8 w k hk64 A p c hm hc hi hp lf P X K np pc nt tc nk kc n fd hn B l d hl D x e hx hxe hq h1 h2 h3 h4 h5 h
      · exact bforms_9 w k hk64 A p c hm hc hi hp lf P X K np pc nt tc nk kc n fd hn B l d hl D x e hx hxe hq h1 h2 h3 h4 h5 h
    · exact bforms_hi w k hk64 A p c hm hc hi hp lf P X K np pc nt tc nk kc n fd hn B l d hl D x e hx hxe hq h1 h2 h3 h4 h5 (by omega)
  · exact bforms_lo w k hk64 A p c hm hc hi hp lf P X K np pc nt tc nk kc n fd hn B l d hl D x e hx hxe hq h1 h2 h3 h4 h5 (by omega)

end Go.Proofs.Ytdjajpookmmafaa
