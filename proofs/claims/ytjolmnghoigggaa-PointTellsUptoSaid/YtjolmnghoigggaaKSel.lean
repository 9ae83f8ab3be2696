/- Selections: SameSel, CheckSel, the program's and the document's. -/
import Derived.Test.YtjolmnghoigggaaKCheck
namespace Go.Proofs.Ytjolmnghoigggaa
open Go.RowKit

/-- A selection: is there one, and its two points. -/
structure Sl where
  is : Bool
  a : List Int × Int
  f : List Int × Int
def samS (s t : Sl) : Bool := s.is == t.is && samP s.a t.a && samP s.f t.f
def chkS (n : NT) (s : Sl) : Int := if s.is = false then (if samP s.a ([], 0) = true ∧ samP s.f ([], 0) = true then 0 else 1) else if chkP n s.a = 0 then chkP n s.f else chkP n s.a
set_option maxRecDepth 4000 in
theorem blk5 {w : World} {g : Nat} {a b c d e : Value} {t : TypeId} (h : w.heap[g]? = some (.cells #[a, b, c, d, e] t (0, 0))) : w.cell? ⟨g, 0, none⟩ = some a ∧ w.cell? ⟨g, 1, none⟩ = some b ∧ w.cell? ⟨g, 2, none⟩ = some c ∧ w.cell? ⟨g, 3, none⟩ = some d ∧ w.cell? ⟨g, 4, none⟩ = some e := by
  refine ⟨?_, ?_, ?_, ?_, ?_⟩ <;> simp [World.cell?, h]
set_option maxRecDepth 4000 in
theorem PtAt.zero (w : World) : PtAt w (.agg #[.slice none 0 0, .int .i64 0]) ([], 0) := ⟨none, 0, 0, rfl, rfl, by omega, Nat.le_refl _, IL.nil _ _ _⟩

set_option maxRecDepth 4000 in
set_option maxHeartbeats 4000000 in
theorem samesel_any (w : World) (s t : Sl) (A B C D : Option Addr) (na nb nc nd ca cb cc cd : Nat) (hA : PtAt w (.agg #[.slice A na ca, .int .i64 s.a.2]) s.a) (hB : PtAt w (.agg #[.slice B nb cb, .int .i64 s.f.2]) s.f) (hC : PtAt w (.agg #[.slice C nc cc, .int .i64 t.a.2]) t.a) (hD : PtAt w (.agg #[.slice D nd cd, .int .i64 t.f.2]) t.f) :
    Calls Try.prog 16 #[.agg #[.bool s.is, .slice A na ca, .int .i64 s.a.2, .slice B nb cb, .int .i64 s.f.2], .agg #[.bool t.is, .slice C nc cc, .int .i64 t.a.2, .slice D nd cd, .int .i64 t.f.2]] w (Still (.bool (samS s t)) w) := by
  obtain ⟨si, sa, sf⟩ := s
  obtain ⟨ti, ta, tf⟩ := t
  simp only at hA hB hC hD ⊢
  obtain ⟨W0, hW⟩ : ∃ W0, (w.alloc (.cells #[.bool si, .slice A na ca, .int .i64 sa.2, .slice B nb cb, .int .i64 sf.2] 33)).alloc (.cells #[.bool ti, .slice C nc cc, .int .i64 ta.2, .slice D nd cd, .int .i64 tf.2] 33) = W0 := ⟨_, rfl⟩
  have hb0 : Below w.heap.size w W0 := hW ▸ below_mono2 (Below.refl _ _) (Nat.le_refl _)
  have e0 := pt_new w (Obj.cells #[Value.bool si, .slice A na ca, .int .i64 sa.2, .slice B nb cb, .int .i64 sf.2] 33) (Obj.cells #[Value.bool ti, .slice C nc cc, .int .i64 ta.2, .slice D nd cd, .int .i64 tf.2] 33)
  rw [hW] at e0
  have HK := hd (show ∀ W, Below W0.heap.size W0 W → (W.cell? ⟨w.heap.size, 0, none⟩ = some (.bool si) ∧ W.cell? ⟨w.heap.size, 1, none⟩ = some (.slice A na ca) ∧ W.cell? ⟨w.heap.size, 2, none⟩ = some (.int .i64 sa.2) ∧ W.cell? ⟨w.heap.size, 3, none⟩ = some (.slice B nb cb) ∧ W.cell? ⟨w.heap.size, 4, none⟩ = some (.int .i64 sf.2) ∧
      W.cell? ⟨w.heap.size + 1, 0, none⟩ = some (.bool ti) ∧ W.cell? ⟨w.heap.size + 1, 1, none⟩ = some (.slice C nc cc) ∧ W.cell? ⟨w.heap.size + 1, 2, none⟩ = some (.int .i64 ta.2) ∧ W.cell? ⟨w.heap.size + 1, 3, none⟩ = some (.slice D nd cd) ∧ W.cell? ⟨w.heap.size + 1, 4, none⟩ = some (.int .i64 tf.2)) from fun W h => by
    obtain ⟨h0, h1, h2, h3, h4⟩ := blk5 (keepBlk e0.1 h)
    obtain ⟨g0, g1, g2, g3, g4⟩ := blk5 (keepBlk e0.2 h)
    exact ⟨h0, h1, h2, h3, h4, g0, g1, g2, g3, g4⟩)
  obtain ⟨x0, x1, x2, x3, x4, y0, y1, y2, y3, y4⟩ := HK.out _ (Below.refl _ _)
  have HW := hd hW
  have HB0 := hd hb0
  obtain ⟨E1, hE1⟩ : ∃ E1, samP sa ta = E1 := ⟨_, rfl⟩
  obtain ⟨E2, hE2⟩ : ∃ E2, samP sf tf = E2 := ⟨_, rfl⟩
  have HC1 := hd (fun (W : World) (h : Below W0.heap.size W0 W) => hE1 ▸ same_at (w := W0) (W := W) h (hA.later hb0) (hC.later hb0))
  have HC2 := hd (fun (W : World) (h : Below W0.heap.size W0 W) => hE2 ▸ same_at (w := W0) (W := W) h (hB.later hb0) (hD.later hb0))
  have hF : samS ⟨si, sa, sf⟩ ⟨ti, ta, tf⟩ = (si == ti && E1 && E2) := by unfold samS; rw [hE1, hE2]
  rw [hF]
  clear hF hE1 hE2 hA hB hC hD hW hb0 e0
  by_cases hi : si = ti
  · subst hi
    have g1 : (si == si) = true := by simp
    cases E1 with
    | true =>
      go_enter Try.func16, Try.ntmps16
      go_wp2_with (first
        | (go_at_call 31; have _g := HB1; refine Calls.mono (HC2.out _ HB1.out) ?_; rintro e w2 ⟨rfl, b2⟩; have HB2 := hd (HB1.out.trans (b2.mono HB1.out.size)); clear b2)
        | (go_at_call 31; rw [HW.out]; refine Calls.mono (HC1.out _ (Below.refl _ _)) ?_; rintro e w1 ⟨rfl, b1⟩; have HB1 := hd b1; clear b1 x0 x1 x2 x3 x4 y0 y1 y2 y3 y4; obtain ⟨x0, x1, x2, x3, x4, y0, y1, y2, y3, y4⟩ := HK.out _ HB1.out))
      go_ret
      exact ⟨ret_bool (by simp), HB0.out.trans (HB2.out.mono HB0.out.size)⟩
    | false =>
      go_enter Try.func16, Try.ntmps16
      go_wp2_with (first
        | (go_at_call 31; have _g := HB1; refine Calls.mono (HC2.out _ HB1.out) ?_; rintro e w2 ⟨rfl, b2⟩; have HB2 := hd (HB1.out.trans (b2.mono HB1.out.size)); clear b2)
        | (go_at_call 31; rw [HW.out]; refine Calls.mono (HC1.out _ (Below.refl _ _)) ?_; rintro e w1 ⟨rfl, b1⟩; have HB1 := hd b1; clear b1 x0 x1 x2 x3 x4 y0 y1 y2 y3 y4; obtain ⟨x0, x1, x2, x3, x4, y0, y1, y2, y3, y4⟩ := HK.out _ HB1.out))
      go_ret
      exact ⟨ret_bool (by simp), HB0.out.trans (HB1.out.mono HB0.out.size)⟩
  · have g1 : (si == ti) = false := by simpa using hi
    clear hi
    go_enter Try.func16, Try.ntmps16
    go_wp2_with (first
      | (go_at_call 31; have _g := HB1; refine Calls.mono (HC2.out _ HB1.out) ?_; rintro e w2 ⟨rfl, b2⟩; have HB2 := hd (HB1.out.trans (b2.mono HB1.out.size)); clear b2)
      | (go_at_call 31; rw [HW.out]; refine Calls.mono (HC1.out _ (Below.refl _ _)) ?_; rintro e w1 ⟨rfl, b1⟩; have HB1 := hd b1; clear b1 x0 x1 x2 x3 x4 y0 y1 y2 y3 y4; obtain ⟨x0, x1, x2, x3, x4, y0, y1, y2, y3, y4⟩ := HK.out _ HB1.out))
    rw [HW.out]
    go_ret
    exact ⟨ret_bool (by simp [g1]), HB0.out⟩
set_option maxRecDepth 4000 in
set_option maxHeartbeats 4000000 in
theorem rsamesel_any (w : World) (s t : Sl) (A B C D : Option Addr) (na nb nc nd ca cb cc cd : Nat) (hA : PtAt w (.agg #[.slice A na ca, .int .i64 s.a.2]) s.a) (hB : PtAt w (.agg #[.slice B nb cb, .int .i64 s.f.2]) s.f) (hC : PtAt w (.agg #[.slice C nc cc, .int .i64 t.a.2]) t.a) (hD : PtAt w (.agg #[.slice D nd cd, .int .i64 t.f.2]) t.f) :
    Calls Try.prog 17 #[.agg #[.bool s.is, .slice A na ca, .int .i64 s.a.2, .slice B nb cb, .int .i64 s.f.2], .agg #[.bool t.is, .slice C nc cc, .int .i64 t.a.2, .slice D nd cd, .int .i64 t.f.2]] w (Still (.bool (samS s t)) w) := by
  obtain ⟨si, sa, sf⟩ := s
  obtain ⟨ti, ta, tf⟩ := t
  simp only at hA hB hC hD ⊢
  obtain ⟨W0, hW⟩ : ∃ W0, (w.alloc (.cells #[.bool si, .slice A na ca, .int .i64 sa.2, .slice B nb cb, .int .i64 sf.2] 33)).alloc (.cells #[.bool ti, .slice C nc cc, .int .i64 ta.2, .slice D nd cd, .int .i64 tf.2] 33) = W0 := ⟨_, rfl⟩
  have hb0 : Below w.heap.size w W0 := hW ▸ below_mono2 (Below.refl _ _) (Nat.le_refl _)
  have e0 := pt_new w (Obj.cells #[Value.bool si, .slice A na ca, .int .i64 sa.2, .slice B nb cb, .int .i64 sf.2] 33) (Obj.cells #[Value.bool ti, .slice C nc cc, .int .i64 ta.2, .slice D nd cd, .int .i64 tf.2] 33)
  rw [hW] at e0
  have HK := hd (show ∀ W, Below W0.heap.size W0 W → (W.cell? ⟨w.heap.size, 0, none⟩ = some (.bool si) ∧ W.cell? ⟨w.heap.size, 1, none⟩ = some (.slice A na ca) ∧ W.cell? ⟨w.heap.size, 2, none⟩ = some (.int .i64 sa.2) ∧ W.cell? ⟨w.heap.size, 3, none⟩ = some (.slice B nb cb) ∧ W.cell? ⟨w.heap.size, 4, none⟩ = some (.int .i64 sf.2) ∧
      W.cell? ⟨w.heap.size + 1, 0, none⟩ = some (.bool ti) ∧ W.cell? ⟨w.heap.size + 1, 1, none⟩ = some (.slice C nc cc) ∧ W.cell? ⟨w.heap.size + 1, 2, none⟩ = some (.int .i64 ta.2) ∧ W.cell? ⟨w.heap.size + 1, 3, none⟩ = some (.slice D nd cd) ∧ W.cell? ⟨w.heap.size + 1, 4, none⟩ = some (.int .i64 tf.2)) from fun W h => by
    obtain ⟨h0, h1, h2, h3, h4⟩ := blk5 (keepBlk e0.1 h)
    obtain ⟨g0, g1, g2, g3, g4⟩ := blk5 (keepBlk e0.2 h)
    exact ⟨h0, h1, h2, h3, h4, g0, g1, g2, g3, g4⟩)
  obtain ⟨x0, x1, x2, x3, x4, y0, y1, y2, y3, y4⟩ := HK.out _ (Below.refl _ _)
  have HW := hd hW
  have HB0 := hd hb0
  obtain ⟨E1, hE1⟩ : ∃ E1, samP sa ta = E1 := ⟨_, rfl⟩
  obtain ⟨E2, hE2⟩ : ∃ E2, samP sf tf = E2 := ⟨_, rfl⟩
  have HC1 := hd (fun (W : World) (h : Below W0.heap.size W0 W) => hE1 ▸ rsame_at (w := W0) (W := W) h (hA.later hb0) (hC.later hb0))
  have HC2 := hd (fun (W : World) (h : Below W0.heap.size W0 W) => hE2 ▸ rsame_at (w := W0) (W := W) h (hB.later hb0) (hD.later hb0))
  have hF : samS ⟨si, sa, sf⟩ ⟨ti, ta, tf⟩ = (si == ti && E1 && E2) := by unfold samS; rw [hE1, hE2]
  rw [hF]
  clear hF hE1 hE2 hA hB hC hD hW hb0 e0
  by_cases hi : si = ti
  · subst hi
    have g1 : (si == si) = true := by simp
    cases E1 with
    | true =>
      go_enter Try.func17, Try.ntmps17
      go_wp2_with (first
        | (go_at_call 24; have _g := HB1; refine Calls.mono (HC2.out _ HB1.out) ?_; rintro e w2 ⟨rfl, b2⟩; have HB2 := hd (HB1.out.trans (b2.mono HB1.out.size)); clear b2)
        | (go_at_call 24; rw [HW.out]; refine Calls.mono (HC1.out _ (Below.refl _ _)) ?_; rintro e w1 ⟨rfl, b1⟩; have HB1 := hd b1; clear b1 x0 x1 x2 x3 x4 y0 y1 y2 y3 y4; obtain ⟨x0, x1, x2, x3, x4, y0, y1, y2, y3, y4⟩ := HK.out _ HB1.out))
      go_ret
      exact ⟨ret_bool (by simp), HB0.out.trans (HB2.out.mono HB0.out.size)⟩
    | false =>
      go_enter Try.func17, Try.ntmps17
      go_wp2_with (first
        | (go_at_call 24; have _g := HB1; refine Calls.mono (HC2.out _ HB1.out) ?_; rintro e w2 ⟨rfl, b2⟩; have HB2 := hd (HB1.out.trans (b2.mono HB1.out.size)); clear b2)
        | (go_at_call 24; rw [HW.out]; refine Calls.mono (HC1.out _ (Below.refl _ _)) ?_; rintro e w1 ⟨rfl, b1⟩; have HB1 := hd b1; clear b1 x0 x1 x2 x3 x4 y0 y1 y2 y3 y4; obtain ⟨x0, x1, x2, x3, x4, y0, y1, y2, y3, y4⟩ := HK.out _ HB1.out))
      go_ret
      exact ⟨ret_bool (by simp), HB0.out.trans (HB1.out.mono HB0.out.size)⟩
  · have g1 : (si == ti) = false := by simpa using hi
    clear hi
    go_enter Try.func17, Try.ntmps17
    go_wp2_with (first
      | (go_at_call 24; have _g := HB1; refine Calls.mono (HC2.out _ HB1.out) ?_; rintro e w2 ⟨rfl, b2⟩; have HB2 := hd (HB1.out.trans (b2.mono HB1.out.size)); clear b2)
      | (go_at_call 24; rw [HW.out]; refine Calls.mono (HC1.out _ (Below.refl _ _)) ?_; rintro e w1 ⟨rfl, b1⟩; have HB1 := hd b1; clear b1 x0 x1 x2 x3 x4 y0 y1 y2 y3 y4; obtain ⟨x0, x1, x2, x3, x4, y0, y1, y2, y3, y4⟩ := HK.out _ HB1.out))
    rw [HW.out]
    go_ret
    exact ⟨ret_bool (by simp [g1]), HB0.out⟩

set_option maxRecDepth 4000 in
/-- Check, in any later world. -/
theorem check_at {d : Nat} {w W : World} {u v : Value} {n : NT} {p : List Int × Int} (hb : Below w.heap.size w W) (hn : NodeAt d w w.heap.size u n) (hp : PtAt w v p) : Calls Try.prog 12 #[u, v] W (Still (.int .i64 (chkP n p)) W) := by
  obtain ⟨A, m, c, rfl, h1, h2, _, h3⟩ := hp.later hb
  exact pcheck_any d W u n A p m c h1 h2 (hn.later hb) h3
set_option maxRecDepth 4000 in
theorem rcheck_at {d : Nat} {w W : World} {u v : Value} {n : NT} {p : List Int × Int} (hb : Below w.heap.size w W) (hn : NodeAt d w w.heap.size u n) (hp : PtAt w v p) : Calls Try.prog 13 #[u, v] W (Still (.int .i64 (chkP n p)) W) := by
  obtain ⟨A, m, c, rfl, h1, h2, _, h3⟩ := hp.later hb
  exact rpcheck_any d W u n A p m c h1 h2 (hn.later hb) h3
set_option maxRecDepth 4000 in
set_option maxHeartbeats 4000000 in
theorem checksel_any_yes (d : Nat) (w : World) (v : Value) (n : NT) (p q : List Int × Int) (A B : Option Addr) (na nb ca cb : Nat) (hn : NodeAt d w w.heap.size v n) (hA : PtAt w (.agg #[.slice A na ca, .int .i64 p.2]) p) (hB : PtAt w (.agg #[.slice B nb cb, .int .i64 q.2]) q) :
    Calls Try.prog 14 #[v, .agg #[.bool true, .slice A na ca, .int .i64 p.2, .slice B nb cb, .int .i64 q.2]] w (Still (.int .i64 (chkS n ⟨true, p, q⟩)) w) := by
  obtain ⟨lf, PA, np, pc, TA, nt, tc, KA, nk, kc, rfl⟩ := hn.val
  obtain ⟨W0, hW⟩ : ∃ W0, (w.alloc (.cells #[.bool lf, .slice PA np pc, .slice TA nt tc, .slice KA nk kc] 26)).alloc (.cells #[.bool true, .slice A na ca, .int .i64 p.2, .slice B nb cb, .int .i64 q.2] 33) = W0 := ⟨_, rfl⟩
  have hb0 : Below w.heap.size w W0 := hW ▸ below_mono2 (Below.refl _ _) (Nat.le_refl _)
  have e0 := pt_new w (Obj.cells #[Value.bool lf, .slice PA np pc, .slice TA nt tc, .slice KA nk kc] 26) (Obj.cells #[Value.bool true, .slice A na ca, .int .i64 p.2, .slice B nb cb, .int .i64 q.2] 33)
  rw [hW] at e0
  have HK := hd (show ∀ W, Below W0.heap.size W0 W → (W.cell? ⟨w.heap.size, 0, none⟩ = some (.bool lf) ∧ W.cell? ⟨w.heap.size, 1, none⟩ = some (.slice PA np pc) ∧ W.cell? ⟨w.heap.size, 2, none⟩ = some (.slice TA nt tc) ∧ W.cell? ⟨w.heap.size, 3, none⟩ = some (.slice KA nk kc) ∧
      W.cell? ⟨w.heap.size + 1, 0, none⟩ = some (.bool true) ∧ W.cell? ⟨w.heap.size + 1, 1, none⟩ = some (.slice A na ca) ∧ W.cell? ⟨w.heap.size + 1, 2, none⟩ = some (.int .i64 p.2) ∧ W.cell? ⟨w.heap.size + 1, 3, none⟩ = some (.slice B nb cb) ∧ W.cell? ⟨w.heap.size + 1, 4, none⟩ = some (.int .i64 q.2)) from fun W h => by
    have h1 := blkCells (keepBlk e0.1 h)
    obtain ⟨g0, g1, g2, g3, g4⟩ := blk5 (keepBlk e0.2 h)
    exact ⟨h1.1, h1.2.1, h1.2.2.1, h1.2.2.2.1, g0, g1, g2, g3, g4⟩)
  obtain ⟨x0, x1, x2, x3, y0, y1, y2, y3, y4⟩ := HK.out _ (Below.refl _ _)
  have HW := hd hW
  have HB0 := hd hb0
  obtain ⟨E1, hE1⟩ : ∃ E1, chkP n p = E1 := ⟨_, rfl⟩
  obtain ⟨E2, hE2⟩ : ∃ E2, chkP n q = E2 := ⟨_, rfl⟩
  have hF : chkS n ⟨true, p, q⟩ = if E1 = 0 then E2 else E1 := by unfold chkS; rw [if_neg (by simp), hE1, hE2]
  rw [hF]
  have HC1 := hd (fun (W : World) (h : Below W0.heap.size W0 W) => hE1 ▸ check_at (w := W0) (W := W) h (hn.later hb0) (hA.later hb0))
  have HC2 := hd (fun (W : World) (h : Below W0.heap.size W0 W) => hE2 ▸ check_at (w := W0) (W := W) h (hn.later hb0) (hB.later hb0))
  clear hF hE1 hE2 hn hA hB hW hb0 e0
  by_cases h0 : E1 = 0
  · subst h0
    go_enter Try.func14, Try.ntmps14
    go_wp2_with (first
      | (go_at_call 12; have _g := HB1; refine Calls.mono (HC2.out _ HB1.out) ?_; rintro e w2 ⟨rfl, b2⟩; have HB2 := hd (HB1.out.trans (b2.mono HB1.out.size)); clear b2)
      | (go_at_call 12; rw [HW.out]; refine Calls.mono (HC1.out _ (Below.refl _ _)) ?_; rintro e w1 ⟨rfl, b1⟩; have HB1 := hd b1; clear b1 x0 x1 x2 x3 y0 y1 y2 y3 y4; obtain ⟨x0, x1, x2, x3, y0, y1, y2, y3, y4⟩ := HK.out _ HB1.out))
    go_ret
    exact ⟨ret_int (by simp), HB0.out.trans (HB2.out.mono HB0.out.size)⟩
  · have g1 : (E1 != 0) = true := by simp [h0]
    rw [if_neg h0]
    clear h0
    go_enter Try.func14, Try.ntmps14
    go_wp2_with (first
      | (go_at_call 12; rw [HW.out]; refine Calls.mono (HC1.out _ (Below.refl _ _)) ?_; rintro e w1 ⟨rfl, b1⟩; have HB1 := hd b1; clear b1 x0 x1 x2 x3 y0 y1 y2 y3 y4; obtain ⟨x0, x1, x2, x3, y0, y1, y2, y3, y4⟩ := HK.out _ HB1.out))
    go_ret
    exact ⟨rfl, HB0.out.trans (HB1.out.mono HB0.out.size)⟩
set_option maxRecDepth 4000 in
set_option maxHeartbeats 4000000 in
theorem rchecksel_any_yes (d : Nat) (w : World) (v : Value) (n : NT) (p q : List Int × Int) (A B : Option Addr) (na nb ca cb : Nat) (hn : NodeAt d w w.heap.size v n) (hA : PtAt w (.agg #[.slice A na ca, .int .i64 p.2]) p) (hB : PtAt w (.agg #[.slice B nb cb, .int .i64 q.2]) q) :
    Calls Try.prog 15 #[v, .agg #[.bool true, .slice A na ca, .int .i64 p.2, .slice B nb cb, .int .i64 q.2]] w (Still (.int .i64 (chkS n ⟨true, p, q⟩)) w) := by
  obtain ⟨lf, PA, np, pc, TA, nt, tc, KA, nk, kc, rfl⟩ := hn.val
  obtain ⟨W0, hW⟩ : ∃ W0, (w.alloc (.cells #[.bool lf, .slice PA np pc, .slice TA nt tc, .slice KA nk kc] 26)).alloc (.cells #[.bool true, .slice A na ca, .int .i64 p.2, .slice B nb cb, .int .i64 q.2] 33) = W0 := ⟨_, rfl⟩
  have hb0 : Below w.heap.size w W0 := hW ▸ below_mono2 (Below.refl _ _) (Nat.le_refl _)
  have e0 := pt_new w (Obj.cells #[Value.bool lf, .slice PA np pc, .slice TA nt tc, .slice KA nk kc] 26) (Obj.cells #[Value.bool true, .slice A na ca, .int .i64 p.2, .slice B nb cb, .int .i64 q.2] 33)
  rw [hW] at e0
  have HK := hd (show ∀ W, Below W0.heap.size W0 W → (W.cell? ⟨w.heap.size, 0, none⟩ = some (.bool lf) ∧ W.cell? ⟨w.heap.size, 1, none⟩ = some (.slice PA np pc) ∧ W.cell? ⟨w.heap.size, 2, none⟩ = some (.slice TA nt tc) ∧ W.cell? ⟨w.heap.size, 3, none⟩ = some (.slice KA nk kc) ∧
      W.cell? ⟨w.heap.size + 1, 0, none⟩ = some (.bool true) ∧ W.cell? ⟨w.heap.size + 1, 1, none⟩ = some (.slice A na ca) ∧ W.cell? ⟨w.heap.size + 1, 2, none⟩ = some (.int .i64 p.2) ∧ W.cell? ⟨w.heap.size + 1, 3, none⟩ = some (.slice B nb cb) ∧ W.cell? ⟨w.heap.size + 1, 4, none⟩ = some (.int .i64 q.2)) from fun W h => by
    have h1 := blkCells (keepBlk e0.1 h)
    obtain ⟨g0, g1, g2, g3, g4⟩ := blk5 (keepBlk e0.2 h)
    exact ⟨h1.1, h1.2.1, h1.2.2.1, h1.2.2.2.1, g0, g1, g2, g3, g4⟩)
  obtain ⟨x0, x1, x2, x3, y0, y1, y2, y3, y4⟩ := HK.out _ (Below.refl _ _)
  have HW := hd hW
  have HB0 := hd hb0
  obtain ⟨E1, hE1⟩ : ∃ E1, chkP n p = E1 := ⟨_, rfl⟩
  obtain ⟨E2, hE2⟩ : ∃ E2, chkP n q = E2 := ⟨_, rfl⟩
  have hF : chkS n ⟨true, p, q⟩ = if E1 = 0 then E2 else E1 := by unfold chkS; rw [if_neg (by simp), hE1, hE2]
  rw [hF]
  have HC1 := hd (fun (W : World) (h : Below W0.heap.size W0 W) => hE1 ▸ rcheck_at (w := W0) (W := W) h (hn.later hb0) (hA.later hb0))
  have HC2 := hd (fun (W : World) (h : Below W0.heap.size W0 W) => hE2 ▸ rcheck_at (w := W0) (W := W) h (hn.later hb0) (hB.later hb0))
  clear hF hE1 hE2 hn hA hB hW hb0 e0
  by_cases h0 : E1 = 0
  · subst h0
    go_enter Try.func15, Try.ntmps15
    go_wp2_with (first
      | (go_at_call 13; have _g := HB1; refine Calls.mono (HC2.out _ HB1.out) ?_; rintro e w2 ⟨rfl, b2⟩; have HB2 := hd (HB1.out.trans (b2.mono HB1.out.size)); clear b2)
      | (go_at_call 13; rw [HW.out]; refine Calls.mono (HC1.out _ (Below.refl _ _)) ?_; rintro e w1 ⟨rfl, b1⟩; have HB1 := hd b1; clear b1 x0 x1 x2 x3 y0 y1 y2 y3 y4; obtain ⟨x0, x1, x2, x3, y0, y1, y2, y3, y4⟩ := HK.out _ HB1.out))
    go_ret
    exact ⟨ret_int (by simp), HB0.out.trans (HB2.out.mono HB0.out.size)⟩
  · have g1 : (E1 != 0) = true := by simp [h0]
    rw [if_neg h0]
    clear h0
    go_enter Try.func15, Try.ntmps15
    go_wp2_with (first
      | (go_at_call 13; rw [HW.out]; refine Calls.mono (HC1.out _ (Below.refl _ _)) ?_; rintro e w1 ⟨rfl, b1⟩; have HB1 := hd b1; clear b1 x0 x1 x2 x3 y0 y1 y2 y3 y4; obtain ⟨x0, x1, x2, x3, y0, y1, y2, y3, y4⟩ := HK.out _ HB1.out))
    go_ret
    exact ⟨rfl, HB0.out.trans (HB1.out.mono HB0.out.size)⟩

set_option maxRecDepth 4000 in
set_option maxHeartbeats 4000000 in
theorem checksel_any_no (d : Nat) (w : World) (v : Value) (n : NT) (p q : List Int × Int) (A B : Option Addr) (na nb ca cb : Nat) (hn : NodeAt d w w.heap.size v n) (hA : PtAt w (.agg #[.slice A na ca, .int .i64 p.2]) p) (hB : PtAt w (.agg #[.slice B nb cb, .int .i64 q.2]) q) :
    Calls Try.prog 14 #[v, .agg #[.bool false, .slice A na ca, .int .i64 p.2, .slice B nb cb, .int .i64 q.2]] w (Still (.int .i64 (chkS n ⟨false, p, q⟩)) w) := by
  obtain ⟨lf, PA, np, pc, TA, nt, tc, KA, nk, kc, rfl⟩ := hn.val
  obtain ⟨W0, hW⟩ : ∃ W0, (w.alloc (.cells #[.bool lf, .slice PA np pc, .slice TA nt tc, .slice KA nk kc] 26)).alloc (.cells #[.bool false, .slice A na ca, .int .i64 p.2, .slice B nb cb, .int .i64 q.2] 33) = W0 := ⟨_, rfl⟩
  have hb0 : Below w.heap.size w W0 := hW ▸ below_mono2 (Below.refl _ _) (Nat.le_refl _)
  have e0 := pt_new w (Obj.cells #[Value.bool lf, .slice PA np pc, .slice TA nt tc, .slice KA nk kc] 26) (Obj.cells #[Value.bool false, .slice A na ca, .int .i64 p.2, .slice B nb cb, .int .i64 q.2] 33)
  rw [hW] at e0
  have HK := hd (show ∀ W, Below W0.heap.size W0 W → (W.cell? ⟨w.heap.size + 1, 0, none⟩ = some (.bool false) ∧ W.cell? ⟨w.heap.size + 1, 1, none⟩ = some (.slice A na ca) ∧ W.cell? ⟨w.heap.size + 1, 2, none⟩ = some (.int .i64 p.2) ∧ W.cell? ⟨w.heap.size + 1, 3, none⟩ = some (.slice B nb cb) ∧ W.cell? ⟨w.heap.size + 1, 4, none⟩ = some (.int .i64 q.2)) from fun W h => blk5 (keepBlk e0.2 h))
  obtain ⟨y0, y1, y2, y3, y4⟩ := HK.out _ (Below.refl _ _)
  have HW := hd hW
  have HB0 := hd hb0
  obtain ⟨E, hE⟩ : ∃ E, samS ⟨false, p, q⟩ ⟨false, ([], 0), ([], 0)⟩ = E := ⟨_, rfl⟩
  have HC := hd (hE ▸ samesel_any W0 ⟨false, p, q⟩ ⟨false, ([], 0), ([], 0)⟩ A B none none na nb 0 0 ca cb 0 0 (hA.later hb0) (hB.later hb0) (PtAt.zero _) (PtAt.zero _))
  have hF : chkS n ⟨false, p, q⟩ = if E = true then 0 else 1 := by
    unfold chkS
    rw [if_pos rfl, ← hE]
    unfold samS
    simp
  rw [hF]
  clear hF hE hn hA hB hW hb0 e0
  cases E <;>
  · go_enter Try.func14, Try.ntmps14
    go_wp2_with (go_at_call 16; rw [HW.out]; refine Calls.mono HC.out ?_; rintro e w1 ⟨rfl, b1⟩; have HB1 := hd b1; clear b1)
    go_ret
    exact ⟨rfl, HB0.out.trans (HB1.out.mono HB0.out.size)⟩

set_option maxRecDepth 4000 in
set_option maxHeartbeats 4000000 in
theorem rchecksel_any_no (d : Nat) (w : World) (v : Value) (n : NT) (p q : List Int × Int) (A B : Option Addr) (na nb ca cb : Nat) (hn : NodeAt d w w.heap.size v n) (hA : PtAt w (.agg #[.slice A na ca, .int .i64 p.2]) p) (hB : PtAt w (.agg #[.slice B nb cb, .int .i64 q.2]) q) :
    Calls Try.prog 15 #[v, .agg #[.bool false, .slice A na ca, .int .i64 p.2, .slice B nb cb, .int .i64 q.2]] w (Still (.int .i64 (chkS n ⟨false, p, q⟩)) w) := by
  obtain ⟨lf, PA, np, pc, TA, nt, tc, KA, nk, kc, rfl⟩ := hn.val
  obtain ⟨W0, hW⟩ : ∃ W0, (w.alloc (.cells #[.bool lf, .slice PA np pc, .slice TA nt tc, .slice KA nk kc] 26)).alloc (.cells #[.bool false, .slice A na ca, .int .i64 p.2, .slice B nb cb, .int .i64 q.2] 33) = W0 := ⟨_, rfl⟩
  have hb0 : Below w.heap.size w W0 := hW ▸ below_mono2 (Below.refl _ _) (Nat.le_refl _)
  have e0 := pt_new w (Obj.cells #[Value.bool lf, .slice PA np pc, .slice TA nt tc, .slice KA nk kc] 26) (Obj.cells #[Value.bool false, .slice A na ca, .int .i64 p.2, .slice B nb cb, .int .i64 q.2] 33)
  rw [hW] at e0
  have HK := hd (show ∀ W, Below W0.heap.size W0 W → (W.cell? ⟨w.heap.size + 1, 0, none⟩ = some (.bool false) ∧ W.cell? ⟨w.heap.size + 1, 1, none⟩ = some (.slice A na ca) ∧ W.cell? ⟨w.heap.size + 1, 2, none⟩ = some (.int .i64 p.2) ∧ W.cell? ⟨w.heap.size + 1, 3, none⟩ = some (.slice B nb cb) ∧ W.cell? ⟨w.heap.size + 1, 4, none⟩ = some (.int .i64 q.2)) from fun W h => blk5 (keepBlk e0.2 h))
  obtain ⟨y0, y1, y2, y3, y4⟩ := HK.out _ (Below.refl _ _)
  have HW := hd hW
  have HB0 := hd hb0
  obtain ⟨E1, hE1⟩ : ∃ E1, samP p ([], 0) = E1 := ⟨_, rfl⟩
  obtain ⟨E2, hE2⟩ : ∃ E2, samP q ([], 0) = E2 := ⟨_, rfl⟩
  have HC1 := hd (fun (W : World) (h : Below W0.heap.size W0 W) => hE1 ▸ rsame_at (w := W0) (W := W) h (hA.later hb0) (PtAt.zero _))
  have HC2 := hd (fun (W : World) (h : Below W0.heap.size W0 W) => hE2 ▸ rsame_at (w := W0) (W := W) h (hB.later hb0) (PtAt.zero _))
  have hF : chkS n ⟨false, p, q⟩ = if E1 = true ∧ E2 = true then 0 else 1 := by
    unfold chkS
    rw [if_pos rfl, ← hE1, ← hE2]
  rw [hF]
  clear hF hE1 hE2 hn hA hB hW hb0 e0
  cases E1
  · rw [if_neg (by simp)]
    go_enter Try.func15, Try.ntmps15
    go_wp2_with (go_at_call 24; rw [HW.out]; refine Calls.mono (HC1.out _ (Below.refl _ _)) ?_; rintro e w1 ⟨rfl, b1⟩; have HB1 := hd b1; clear b1)
    go_ret
    exact ⟨rfl, HB0.out.trans (HB1.out.mono HB0.out.size)⟩
  · cases E2 <;>
    · go_enter Try.func15, Try.ntmps15
      go_wp2_with (first
        | (go_at_call 24; have _g := HB1; refine Calls.mono (HC2.out _ HB1.out) ?_; rintro e w2 ⟨rfl, b2⟩; have HB2 := hd (HB1.out.trans (b2.mono HB1.out.size)); clear b2)
        | (go_at_call 24; rw [HW.out]; refine Calls.mono (HC1.out _ (Below.refl _ _)) ?_; rintro e w1 ⟨rfl, b1⟩; have HB1 := hd b1; clear b1 y0 y1 y2 y3 y4; obtain ⟨y0, y1, y2, y3, y4⟩ := HK.out _ HB1.out))
      go_ret
      exact ⟨ret_int (by simp), HB0.out.trans (HB2.out.mono HB0.out.size)⟩

set_option maxRecDepth 4000 in
theorem checksel_at {d : Nat} {w W : World} {v : Value} {n : NT} {b : Bool} {p q : List Int × Int} {A B : Option Addr} {na nb ca cb : Nat} (h : Below w.heap.size w W) (hn : NodeAt d w w.heap.size v n) (hA : PtAt w (.agg #[.slice A na ca, .int .i64 p.2]) p) (hB : PtAt w (.agg #[.slice B nb cb, .int .i64 q.2]) q) :
    Calls Try.prog 14 #[v, .agg #[.bool b, .slice A na ca, .int .i64 p.2, .slice B nb cb, .int .i64 q.2]] W (Still (.int .i64 (chkS n ⟨b, p, q⟩)) W) := by
  cases b
  · exact checksel_any_no d W v n p q A B na nb ca cb (hn.later h) (hA.later h) (hB.later h)
  · exact checksel_any_yes d W v n p q A B na nb ca cb (hn.later h) (hA.later h) (hB.later h)
set_option maxRecDepth 4000 in
theorem rchecksel_at {d : Nat} {w W : World} {v : Value} {n : NT} {b : Bool} {p q : List Int × Int} {A B : Option Addr} {na nb ca cb : Nat} (h : Below w.heap.size w W) (hn : NodeAt d w w.heap.size v n) (hA : PtAt w (.agg #[.slice A na ca, .int .i64 p.2]) p) (hB : PtAt w (.agg #[.slice B nb cb, .int .i64 q.2]) q) :
    Calls Try.prog 15 #[v, .agg #[.bool b, .slice A na ca, .int .i64 p.2, .slice B nb cb, .int .i64 q.2]] W (Still (.int .i64 (chkS n ⟨b, p, q⟩)) W) := by
  cases b
  · exact rchecksel_any_no d W v n p q A B na nb ca cb (hn.later h) (hA.later h) (hB.later h)
  · exact rchecksel_any_yes d W v n p q A B na nb ca cb (hn.later h) (hA.later h) (hB.later h)

end Go.Proofs.Ytjolmnghoigggaa
