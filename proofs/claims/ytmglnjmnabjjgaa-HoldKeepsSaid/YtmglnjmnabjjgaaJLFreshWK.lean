/- Refs told anew: slices.Clone, fresh. Whether a ref may be: the document's Check. What a ref has besides, whether a path leads somewhere: the program's strays, there. One ref more: the document's Add. -/
import Derived.Test.YtmglnjmnabjjgaaJLFree
import Derived.Test.YtmglnjmnabjjgaaJTGetAWK
import Derived.Test.YtmglnjmnabjjgaaJXMove5
import Derived.Test.YtmglnjmnabjjgaaJLOpen
import Derived.Test.YtmglnjmnabjjgaaJXCalls
import Derived.Test.YtmglnjmnabjjgaaJKCmp
import Derived.Test.YtmglnjmnabjjgaaJGTextWK
import Derived.Test.YtmglnjmnabjjgaaJGText
import Derived.Laws.Strings
import Derived.IntWalk
import Derived.Laws.AppendOwnNone
import Derived.Lib.AppendZeros
import Derived.Lib.SliceRun
import Derived.StillTailTactics
import Derived.Deep.Cut
import Derived.Deep.RegionHeld3
import Derived.Deep.RegionLaw
import Derived.BigRegion
import Derived.Great.BuildSlice
namespace Go.Proofs.Ytmglnjmnabjjgaa
open Go.RowKit
open Go.WideShapes (add_plain)
set_option maxRecDepth 4000 in
theorem OffF.mono {F G : Nat → Prop} {w w' : World} (h : OffF F w w') (hF : ∀ k, F k → G k) : OffF G w w' := ⟨h.os, h.tape, h.output, h.size, fun k hk hn => h.block k hk (fun e => hn (hF k e))⟩
set_option maxRecDepth 4000 in
/-- One ref told. -/
theorem NewFr.one {w w' : World} {F : Nat → Prop} {r : RefP} {e : Ending} (h : NewFr w F [r] e w') : ∃ b o cap d, e = .returned (.slice (some ⟨b, o, none⟩) 1 cap) ∧ 1 ≤ cap ∧ w'.rangeAt b o d.row.toList ∧ (∀ W, OffF F w' W → RkA W d r) ∧ Below w.heap.size w w' := by
  obtain ⟨A, n, cap, ds, rfl, hn, hc, hf, _, hb⟩ := h
  simp only [List.length_cons, List.length_nil] at hn
  subst hn
  obtain ⟨g, rfl, hf2⟩ := hf (by omega)
  obtain ⟨b, o, c, a, e, _, h1, h2, _, h4⟩ := hf2.lr.at_ (k := 0) (by simp)
  simp only [List.getElem?_cons_zero, Option.some.injEq] at h2
  subst h2
  rw [Nat.zero_mul, Nat.add_zero] at h4
  exact ⟨b, o, cap, c, by rw [e], hc, h4, fun W ho => (hf2.held W (ho.mono fun k h => .inr h)).2 0 c _ h1 rfl, hb⟩

end Go.Proofs.Ytmglnjmnabjjgaa

namespace Go.Proofs.Ytmglnjmnabjjgaa
open Go.RowKit

theorem lvars2 (w : World) (t u : TypeId) (r s : Array Value) : ∃ W0, (w.alloc (.cells r t)).alloc (.cells s u) = W0 ∧ Below w.heap.size w W0 ∧ VarR t W0 w.heap.size r ∧ VarR u W0 (w.heap.size + 1) s := by
  have h1 := (VarR.new w t r).alloc (.cells s u)
  have h2 := VarR.new (w.alloc (.cells r t)) u s
  have e1 : (w.alloc (.cells r t)).heap.size = w.heap.size + 1 := by simp
  rw [e1] at h2
  exact ⟨_, rfl, ((Below.refl _ _).alloc (Nat.le_refl _) _).alloc (by rw [e1]; omega) _, h1, h2⟩
set_option maxRecDepth 4000 in
theorem VarR.node {W : World} {g : Nat} {c : NC} (h : VarR 26 W g c.row) : W.cell? ⟨g, 0, none⟩ = some (.bool c.lf) ∧ W.cell? ⟨g, 1, none⟩ = some (.slice c.P c.np c.pc) ∧ W.cell? ⟨g, 2, none⟩ = some (.slice c.X c.nt c.tc) ∧ W.cell? ⟨g, 3, none⟩ = some (.slice c.K c.nk c.kc) := h.four
end Go.Proofs.Ytmglnjmnabjjgaa

namespace Go.Proofs.Ytmglnjmnabjjgaa
open Go.RowKit

theorem RkA.ptT {w : World} {c : RC} {r : RefP} (h : RkA w c r) (ht : tinyR r) : PtAt w (.agg #[.slice c.Q c.nq c.cq, .int .i64 c.qo]) r.q := h.hq.pt h.hqo (by have := h.hq.len; have := ht.2.1; omega)
set_option maxRecDepth 4000 in
theorem RkA.paT {w : World} {c : RC} {r : RefP} (h : RkA w c r) (ht : tinyR r) : PtAt w (.agg #[.slice c.A c.na c.ca, .int .i64 c.ao]) r.a := h.haa.pt h.hao (by have := h.haa.len; have := ht.2.2.1; omega)
set_option maxRecDepth 4000 in
theorem RkA.pfT {w : World} {c : RC} {r : RefP} (h : RkA w c r) (ht : tinyR r) : PtAt w (.agg #[.slice c.F c.nf c.cf, .int .i64 c.fo]) r.f := h.hf.pt h.hfo (by have := h.hf.len; have := ht.2.2.2; omega)
set_option maxRecDepth 4000 in
theorem hpt_same {w : World} {u v : Value} {p q : List Int × Int} {E : Bool} (hp : PtAt w u p) (hq : PtAt w v q) (hE : samP p q = E) : Calls Try.prog 48 #[u, v] w (Still (.bool E) w) := hE ▸ same_at (Below.refl _ _) hp hq
set_option maxRecDepth 4000 in
theorem hsel_same {w : World} {d : RC} {r : RefP} {E : Bool} (h : RkA w d r) (ht : tinyR r) (hE : (zP r.a && zP r.f) = E) : Calls Try.prog 49 #[.agg #[.bool false, .slice d.A d.na d.ca, .int .i64 d.ao, .slice d.F d.nf d.cf, .int .i64 d.fo], .agg #[.bool false, .slice none 0 0, .int .i64 0, .slice none 0 0, .int .i64 0]] w (Still (.bool E) w) := by
  have h2 := samesel_any w ⟨false, r.a, r.f⟩ ⟨false, ([], 0), ([], 0)⟩ d.A d.F none none d.na d.nf 0 0 d.ca d.cf 0 0 (by rw [h.hao]; exact h.paT ht) (by rw [h.hfo]; exact h.pfT ht) (PtAt.zero _) (PtAt.zero _)
  rw [← hE]
  have e : samS ⟨false, r.a, r.f⟩ ⟨false, ([], 0), ([], 0)⟩ = (zP r.a && zP r.f) := by
    unfold samS zP
    simp
  rw [e] at h2
  simp only at h2
  rw [h.hao, h.hfo] at h2
  exact h2
/-- Has a ref what its kind does not have? -/
def strayB (k1 k2 k3 : Bool) (np : Nat) (E1 E2 : Bool) : Bool := (k1 && decide (0 < np)) || ((k2 && !E1) || (k3 && !E2))

set_option maxRecDepth 100000 in
set_option maxHeartbeats 8000000 in
theorem hstray_any {w : World} {d : RC} {r : RefP} {k1 k2 k3 E1 E2 : Bool} (hr : RkA w d r) (ht : tinyR r) (e1 : (d.kind != 1) = k1) (e2 : (d.kind != 2) = k2) (e3 : (d.kind != 3) = k3) (hE1 : zP r.q = E1) (hE2 : (zP r.a && zP r.f) = E2) : Calls Try.prog 25 #[.agg d.row] w (Still (.bool (strayB k1 k2 k3 d.np E1 E2)) w) := by
  obtain ⟨W0, hW⟩ : ∃ W0, w.alloc (.cells d.row 34) = W0 := ⟨_, rfl⟩
  have hv := (ref_var w d).1
  have hb := (ref_var w d).2
  rw [hW] at hv hb
  have HK := hd (fun W (h : Below W0.heap.size W0 W) => (hv.keep h).eleven)
  have HR := hd (fun W (h : Below W0.heap.size W0 W) => (hr.later hb).later h)
  have HT := hd ht
  have hm := hr.hp.max
  have H1 := hd hE1
  have H2 := hd hE2
  have HW := hd hW
  have HB := hd hb
  have HBc := hd (Below.refl W0.heap.size W0)
  clear hW hb hv hr ht hE1 hE2
  obtain ⟨⟨u0, u1, u2, u3⟩, u4, ⟨u5, u6⟩, u7, u8, u9, u10⟩ := HK.out _ HBc.out
  go_enter Try.func25, Try.ntmps25
  go_upto_region 1 with fail
  rw [HW.out]
  go_wp2_with (first
    | (go_at_call 48; refine Calls.mono (hpt_same ((HR.out _ HBc.out).ptT HT.out) (PtAt.zero _) H1.out) ?_; rintro e w9 ⟨rfl, b9⟩; have HBc := hd (step_b HBc.out b9); clear b9 u0 u1 u2 u3 u4 u5 u6 u7 u8 u9 u10; obtain ⟨⟨u0, u1, u2, u3⟩, u4, ⟨u5, u6⟩, u7, u8, u9, u10⟩ := HK.out _ HBc.out)
    | (go_at_call 49; refine Calls.mono (hsel_same (HR.out _ HBc.out) HT.out H2.out) ?_; rintro e w9 ⟨rfl, b9⟩; have HBc := hd (step_b HBc.out b9); clear b9))
  all_goals (go_ret; refine ⟨ret_bool ?_, HB.out.trans (HBc.out.mono HB.out.size)⟩)
  all_goals first
    | (unfold strayB; simp_all; done)
    | (unfold strayB; simp_all; omega)
    | (unfold strayB; simp_all; intros; simp_all; omega)

set_option maxRecDepth 4000 in
theorem getE_step {n k : NT} {i : Int} {r : List Int} (h : kidT n i = some k) : (getE n (i :: r)).2 = (getE k r).2 := by unfold getE; rw [getO, h]
set_option maxRecDepth 4000 in
theorem getE_stop {n : NT} {i : Int} {r : List Int} (h : kidT n i = none) : (getE n (i :: r)).2 = 5 := by unfold getE; rw [getO, h]
/-- Where the walk down a path stands. -/
structure Down (w : World) (n : NT) (p : List Int) (k : Nat) (c : NC) (m : NT) (W : World) : Prop where
  at_ : ∃ d, NodeAt d w w.heap.size (.agg c.row) m
  ans : (getE n p).2 = (getE m (p.drop k)).2
  below : Below w.heap.size w W
  var : VarR 26 W w.heap.size c.row
set_option maxRecDepth 100000 in
set_option maxHeartbeats 8000000 in
theorem hthere_any {w : World} {c : NC} {n : NT} {A : Option Addr} {p : List Int} {lp cap : Nat} {E : Int} (hn : HasN w c n) (hlp : p.length = lp) (hl : lp ≤ 10000) (hp : IL w w.heap.size A p) (hE : (getE n p).2 = E) : Calls Try.prog 37 #[.agg c.row, .slice A lp cap] w (Still (.int .i64 E) w) := by
  subst hE
  have HD := hd (show Down w n p 0 c n (w.alloc (.cells c.row 26)) from ⟨hn, rfl, (Below.refl _ _).alloc (Nat.le_refl _) _, VarR.new w _ _⟩)
  have HP := hd hp
  have HL := hd hlp
  obtain ⟨W0, hW⟩ : ∃ W0, w.alloc (.cells c.row 26) = W0 := ⟨_, rfl⟩
  rw [hW] at HD
  have HW := hd hW
  clear hn hp hlp hW
  go_enter Try.func37, Try.ntmps37
  go_upto_region 1 with fail
  rw [HW.out]
  go_wp2_with fail
  go_loopw [9] (fun i wr => ∃ k : Nat, k ≤ lp ∧ i = .int .i64 k ∧ ∃ c m, Hid (Down w n p k c m wr)) (fun i _ => lp - (intOf i).toNat)
  case atStart => exact ⟨0, Nat.zero_le _, rfl, c, n, HD⟩
  case round =>
    obtain ⟨k, hk, rfl, c, m, HD⟩ := hrel
    by_cases hlt : k < lp
    · obtain ⟨b, o, rfl, hb, hc⟩ := HP.out.at_ (k := k) (by rw [HL.out]; exact hlt)
      have hx := (HD.out.below.cell (p := ⟨b, o + k, none⟩) hb).trans hc
      obtain ⟨v, hv⟩ : ∃ v, iAt p k = v := ⟨_, rfl⟩
      have hdr : p.drop k = v :: p.drop (k + 1) := by
        rw [List.drop_eq_getElem_cons (by rw [HL.out]; exact hlt), ← hv, iAt_eq p k (by rw [HL.out]; exact hlt)]
      rw [hv] at hx
      have HDR := hd hdr
      obtain ⟨n0, n1, n2, n3⟩ := HD.out.var.node
      obtain ⟨d, hna⟩ := HD.out.at_
      obtain ⟨d', lf, ps, tx, ks, PA, pc, TA, tc, KA, kc, rfl, hm, hcr, _, _, hfit, hks⟩ := hna.open_
      have hnk : c.nk = ks.length := by
        unfold NC.row at hcr
        simp at hcr
        exact hcr.2.2.2.2.1
      have hKA : c.K = KA := by
        unfold NC.row at hcr
        simp at hcr
        exact hcr.2.2.2.1
      have hkl : m.ks = ks := by rw [hm]; rfl
      have hk63 : ks.length ≤ 1759218604441 := hfit.2.2.2.1
      clear hcr hfit hm
      subst hKA
      rw [hnk] at n3
      by_cases hv0 : v < 0
      · have HE := hd (show (getE n p).2 = 5 by rw [HD.out.ans, HDR.out, getE_stop (kid_none (by unfold hasB; simp; omega))])
        clear hks hdr hkl hnk
        go_wp2_with fail
        go_ret
        exact ⟨ret_int HE.out.symm, HD.out.below⟩
      obtain ⟨vn, rfl⟩ : ∃ vn : Nat, v = vn := ⟨v.toNat, by omega⟩
      clear hv0
      by_cases hvl : vn < ks.length
      · obtain ⟨m2, b2, o2, lf2, PA2, np2, pc2, TA2, nt2, tc2, KA2, nk2, kc2, hm2, e2, hb2, hna2, c0, c1, c2, c3⟩ := hks.at_ hvl
        rw [e2] at n3
        have c0 := (HD.out.below.cell (p := ⟨b2, o2 + vn * 4, none⟩) hb2).trans c0
        have c1 := (HD.out.below.cell (p := ⟨b2, o2 + vn * 4 + 1, none⟩) hb2).trans c1
        have c2 := (HD.out.below.cell (p := ⟨b2, o2 + vn * 4 + 2, none⟩) hb2).trans c2
        have c3 := (HD.out.below.cell (p := ⟨b2, o2 + vn * 4 + 3, none⟩) hb2).trans c3
        have HA2 := hd hna2
        have HANS := hd (show (getE n p).2 = (getE m2 (p.drop (k + 1))).2 by
          rw [HD.out.ans, HDR.out, getE_step (k := m2)]
          unfold kidT
          rw [if_pos (by omega), hkl]
          simpa using hm2)
        clear hks hdr hkl hnk hm2 hna2 e2
        go_wp2_with (first
          | ((with_reducible refine gd_store (ty := 26) (x := .tmp 2) ?_); refine wpList_store_row2 rowT_node (r := (⟨lf2, PA2, np2, pc2, TA2, nt2, tc2, KA2, nk2, kc2⟩ : NC).row) HD.out.var rfl rfl (by kernel_rfl) _ _ rfl rfl rfl rfl rfl ?_; intro W9 hv9 ho9; have HD := hd (show Down w n p (k + 1) ⟨lf2, PA2, np2, pc2, TA2, nt2, tc2, KA2, nk2, kc2⟩ m2 W9 from ⟨⟨_, HA2.out⟩, HANS.out, off_below HD.out.below ho9 (Nat.le_refl _), hv9⟩); clear hv9 ho9))
        go_roundw
        case rel => exact ⟨k + 1, by omega, by go_num, _, _, HD⟩
        case measure => simp [intOf]; omega
      · have HE := hd (show (getE n p).2 = 5 by rw [HD.out.ans, HDR.out, getE_stop (kid_none (by unfold hasB; rw [hkl]; simp; omega))])
        clear hks hdr hkl hnk
        go_wp2_with fail
        go_ret
        exact ⟨ret_int HE.out.symm, HD.out.below⟩
    · obtain rfl : k = lp := by omega
      have HE := hd (show (getE n p).2 = 0 by rw [HD.out.ans, List.drop_of_length_le (Nat.le_of_eq HL.out)]; rfl)
      clear hlt
      go_wp2_with fail
      go_ret
      exact ⟨ret_int HE.out.symm, HD.out.below⟩

end Go.Proofs.Ytmglnjmnabjjgaa

namespace Go.Proofs.Ytmglnjmnabjjgaa
open Go.RowKit

/-- A field of one cell stored into a row. -/
theorem wpList_store_cell {ty t : TypeId} (hsz : (Try.prog.info? ty).map (·.size) = some 1) {ops : Array Oper} {rest : List Oper} {op : Oper} {a : Act} {W : World} {Q : Exit → Act → World → Prop} {g : Nat} {r : Array Value} (h : VarR t W g r) (x y : Operand) (ho : op.op = .store ty x y) (hgd : op.guard = none) (hd : op.dst = none)
    (j : Nat) (v : Value) (hx : a.eval x = .pointer (some ⟨g, j, none⟩)) (hy : a.eval y = v) (hv : v.cells = [v].toArray) (h1 : v.oneCell' = true) (hj : j < r.size)
    (hk : ∀ W', VarR t W' g (r.setIfInBounds j v) → Off g W W' → wpList Try.prog ops Q rest a W') : wpList Try.prog ops Q (op :: rest) a W := by
  have hc : (W.cell? ⟨g, j, none⟩).isSome = true := by rw [h.cell j _ (Array.getElem?_eq_getElem hj)]; rfl
  have hf : W.frozen? ⟨g, j, none⟩ = false := by
    unfold VarR at h
    simp [World.frozen?, h]
  have hrun := run_storeCells_cells (P := Try.prog) g j [v] 0 W (fun i hi => by
    have : i = 0 := by simpa using hi
    subst this
    simpa using hc) (fun i hi => by
    have : i = 0 := by simpa using hi
    subst this
    simpa using hf) (by simpa using h1)
  have hst : (storeVar ty ⟨g, j, none⟩ v).run Try.prog W = .ok () (W.setCells g j [v]) := by
    cases hq : Try.prog.info? ty with
    | none => simp [hq] at hsz
    | some i =>
      have hs : i.size = 1 := by simpa [hq] using hsz
      simp only [Nat.add_zero] at hrun
      simp [storeVar, sizeOf, typeInfo, hq, hv, hs, hrun]
  refine wpList_plain hgd fun K hK => ?_
  unfold Oper.wp execOp
  simp only [ho, hx, hy, Instr.storeAt, Instr.sureAddr, Sem.run_bind, Sem.run_pure, Result.andThen_ok, hst]
  obtain ⟨r1, r2⟩ := setCells_row g _ [v] j W _ h
  exact hK _ _ (by rw [hd]; exact hk _ r1 r2)

set_option maxRecDepth 4000 in
theorem lsz_bool : (Try.prog.info? 4).map (·.size) = some 1 := by kernel_rfl
set_option maxRecDepth 4000 in
theorem wpList_build_refg {ops : Array Oper} {rest : List Oper} {o : Oper} {a : Act} {Q : Exit → Act → World → Prop} {W : World} {c : RC} (x : Operand) (ho : o.op = .buildSlice 27 1 #[(0, x)]) (hw : Region.wanted o (yielded ops a.tmps) = true) (hx : a.eval x = .agg c.row)
    (hk : wpList Try.prog ops Q rest (a.put o.dst (.slice (some ⟨W.heap.size, 0, none⟩) 1 1)) (W.alloc (.cells c.row 34))) : wpList Try.prog ops Q (o :: rest) a W := by
  refine wpList_step fun K hK => ?_
  rw [if_pos hw]
  unfold Oper.wp execOp
  simp only [ho, List.map_toArray, List.map_cons, List.map_nil, hx, Sem.run_bind, run_build_ref, Result.andThen_ok]
  exact hK _ _ hk
set_option maxRecDepth 4000 in
theorem gd_buildg {P : Program} {ops : Array Oper} {Q : Exit → Act → World → Prop} {dst : Option Nat} {ty : TypeId} {k : Nat} {ps : Array (Nat × Operand)} {t : TypeId} {pos : String} {af : Array Edge} {gq : Nat × Bool} {rest : List Oper} {a : Act} {w : World} (h : wpList P ops Q ({ dst := dst, op := .buildSlice ty k ps, type := t, pos := pos, after := af, guard := some gq } :: rest) a w) : wpList P ops Q ({ dst := dst, op := .buildSlice ty k ps, type := t, pos := pos, after := af, guard := some gq } :: rest) a w := h
end Go.Proofs.Ytmglnjmnabjjgaa
