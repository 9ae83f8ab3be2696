/- A point's own copy; -/
import Derived.Test.YtmkciabefepelaaGreatJIAlike
import Derived.Test.YtmkciabefepelaaGreatJTCut
import Derived.ArgAppend
import Derived.Lib.SliceRun
import Derived.Deep.RegionHeld3
import Derived.Test.YtmkciabefepelaaGreatJIPath
import Derived.Test.YtmkciabefepelaaGreatTChange
import Derived.Test.YtmkciabefepelaaGreatJTGet
set_option maxRecDepth 4000
set_option maxHeartbeats 8000000
namespace Go.Proofs.YtmkciabefepelaaGreat
open Go.RowKit
section
variable {w w' : World} {g : Nat} {a b x y : Value} {t : TypeId}
theorem kM8 (h : w.heap[g]? = some (.cells #[a, b] t (0, 0))) : w.cell? ⟨g, 0, none⟩ = some a /\ w.cell? ⟨g, 1, none⟩ = some b /\ w.frozen? ⟨g, 0, none⟩ = false /\ w.frozen? ⟨g, 1, none⟩ = false := by
 refine ⟨?_, ?_, ?_, ?_⟩ <;> simp [World.cell?, World.frozen?, h]
theorem kAk (w : World) (g : Nat) (t : TypeId) (cs : Array Value) (k : Nat) (x : Value) (h : w.heap[g]? = some (.cells cs t (0, 0))) : (w.setCell ⟨g, k, none⟩ x).heap[g]? = some (.cells (cs.setIfInBounds k x) t (0, 0)) := by
 have hlt := lt_of_block h
 have h' : w.heap[g] = .cells cs t (0, 0) := by simpa [Array.getElem?_eq_getElem hlt] using h
 show (w.heap.modify g _)[g]? = _
 rw [Array.getElem?_eq_getElem (by simpa using hlt), Array.getElem_modify_self, h']
 rfl
end
theorem zK2 (w : World) (o o' : Obj) : ((w.alloc o).alloc o').heap[w.heap.size]? = some o /\ ((w.alloc o).alloc o').heap[w.heap.size + 1]? = some o' := by
 refine ⟨?_, ?_⟩
 ·rw [Below.heap_alloc _ _ _ (by simp)]; exact heap_alloc_new _ _
 ·rw [<- sz1 (w := w) (A := o)]; exact heap_alloc_new _ _
theorem kAl : madeCells #[Value.int .i64 0] 0 = #[] := by simp [madeCells, Array.range]
theorem kAm (A : Option Addr) (l : List Int) (n c : Nat) (w : World) (hn : l.length = n) (hl : n <= 1000) (hp : IL w w.heap.size A l) :
  Calls Tryz.prog 88 #[.slice A n c] w (zVq w l) := by
 have HP := hd hp
 have HN := hd hn
 clear hp hn
 rcases A with _ | a
 ·have hnil := fun W => Go.Lib.run_eql_slice_nil (P := Tryz.prog) W 27 3 none n c 0 0 Tryz.underlying27
  have HL := hd (show l = [] by
   rcases Classical.em (l = []) with h | h
   ·exact h
   ·obtain ⟨_, _, h, _⟩ := HP.out h; cases h)
  go_enter Tryz.func88, Tryz.ntmps88
  go_wp2
  go_ret
  exact ⟨_, rfl, by rw [HL.out]; exact zBt.nil _ _, Below.refl _ _⟩
 ·have hnil := fun W => Go.Lib.run_eql_slice_nil (P := Tryz.prog) W 27 3 (some a) n c 0 0 Tryz.underlying27
  go_enter Tryz.func88, Tryz.ntmps88
  have HO := hd (show zBt (w.alloc (.cells #[] 3)) w.heap.size (.slice (some ⟨w.heap.size, 0, none⟩) 0 0) [] from kAl ▸ zBt.made w w.heap.size 0 (by omega) (Nat.le_refl _))
  go_wp2_with (at_builtin; (refine zCf _ rfl (.tmp 5) (.tmp 6) rfl w.heap.size (.slice (some ⟨w.heap.size, 0, none⟩) 0 0) [] l rfl HO.out (some a) n c w.heap.size rfl HN.out (HP.out.below ((Below.refl _ _).alloc (Nat.le_refl _) _)) (by have := HN.out; simp; omega) (by simp) ?_; intro v' w1 ho1 hg1))
  go_ret
  exact ⟨v', rfl, by simpa using ho1, hg1.below _ _ (Nat.le_refl _) (by simp) ((Below.refl _ _).alloc (Nat.le_refl _) _)⟩
end Go.Proofs.YtmkciabefepelaaGreat
namespace Go.Proofs.YtmkciabefepelaaGreat
def kNg (n : NT) (q : List Int) : Int := match kB n q with
 | none => 0
 | some m => m.tx.length
def zK6 (n : NT) (p : List Int × Int) : Int := match kB n p.1 with
 | none => 5
 | some m => if m.lf = false then 7 else if p.2 < 0 ∨ (m.tx.length : Int) < p.2 then 8 else 0
theorem zGh : ∀ (p : List Int) (n m : NT), kB n p = some m -> p.length + sizeT m <= sizeT n
 | [], n, m, h => by rw [kB] at h; injection h with h; rw [h]; simp
 | a :: r, n, m, h => by
  rw [zR] at h
  cases hk : zBh n a with
  | none => rw [hk] at h; cases h
  | some k =>
   rw [hk] at h
   have h1 := zGh r k m h
   have h2 := kAj (zA1 hk).2.2
   have h3 : sizeK n.ks < sizeT n := by cases n; rw [sizeT]; simp only [NT.ks]; omega
   simp only [List.length_cons]; omega
end Go.Proofs.YtmkciabefepelaaGreat
namespace Go.Proofs.YtmkciabefepelaaGreat
open Go.RowKit
def eO : Option (List Int) -> Int
 | none => 14
 | some _ => 0
def zI4 (w : World) (v : Value) (p : List Int × Int) : Prop := ∃ A n c, v = .agg #[.slice A n c, .int .i64 p.2] /\ p.1.length = n /\ n <= 10000000 /\ n <= c /\ IL w w.heap.size A p.1
theorem zI4.later {w w' : World} {v : Value} {p : List Int × Int} (h : zI4 w v p) (hb : Below w.heap.size w w') : zI4 w' v p := by
 obtain ⟨A, n, c, e, h1, h2, h3, h4⟩ := h
 exact ⟨A, n, c, e, h1, h2, h3, h4.later hb⟩
theorem kMz {w W : World} {u v : Value} {p q : List Int × Int} (hb : Below w.heap.size w W) (hp : zI4 w u p) (hq : zI4 w v q) : Calls Tryz.prog 111 #[u, v] W (jA (.int .i64 (kFb p q)) W) := by
 obtain ⟨A, n, c, rfl, h1, h2, _, h3⟩ := hp.later hb
 obtain ⟨B, m, d, rfl, g1, g2, _, g3⟩ := hq.later hb
 exact zKy A B p q n m c d W h1 g1 (by omega) (by omega) h3 g3
theorem zYt {w W : World} {u v : Value} {p q : List Int × Int} (hb : Below w.heap.size w W) (hp : zI4 w u p) (hq : zI4 w v q) : Calls Tryz.prog 57 #[u, v] W (jA (.bool (samP p q)) W) := by
 obtain ⟨A, n, c, rfl, h1, h2, _, h3⟩ := hp.later hb
 obtain ⟨B, m, d, rfl, g1, g2, _, g3⟩ := hq.later hb
 exact zQj A B p q n m c d W h1 g1 (by omega) (by omega) h3 g3
theorem kOf {P : Prop} (h : P := by
 go_wp2_with (first
  | (go_at_call 30; rw [<- HW.out]; refine HC.out.mono ?_; intro e w1 h1; obtain ⟨v1, d1, rfl, ht1, hb1⟩ := h1; obtain ⟨d', lf1, ps1, tx1, ks1, PA1, pc1, TA1, tc1, KA1, kc1, _, hm1, rfl, _, _, hf1, _⟩ := (ht1.at_ (B := w1.heap.size) (fun b hb => hb.2)).open_; have hm1' := HM1.out.symm.trans hm1; clear hm1; injection hm1' with e1 e2 e3 e4; subst e1 e2 e3 e4; have hf2 := hf1.2.2.1; have HB1 := hd hb1; clear ht1 hb1 hf1 x0 x1 x2 x3 y0 y1; obtain ⟨x0, x1, x2, x3, y0, y1⟩ := HK.out _ HB1.out; have hl0 := kQ x0; have hl1 := kQ y1)
  | fail)
 go_ret
 exact ⟨zAj HF.out.symm, HB0.out.trans ((HB1.out.alloc HB1.out.size _).mono HB0.out.size)⟩) : P := h
theorem zSt (d : Nat) (w : World) (v : Value) (n : NT) (A : Option Addr) (p : List Int × Int) (lp c : Nat) (hlp : p.1.length = lp) (hl : lp <= 10000000) (hn : zV d w w.heap.size v n) (hp : IL w w.heap.size A p.1) :
  Calls Tryz.prog 56 #[v, .agg #[.slice A lp c, .int .i64 p.2]] w (jA (.int .i64 (zK6 n p)) w) := by
 obtain ⟨lf, PA, np, pc, TA, nt, tc, KA, nk, kc, rfl⟩ := hn.val
 obtain ⟨W0, hW⟩ : ∃ W0, W0 = (w.alloc (.cells #[.bool lf, .slice PA np pc, .slice TA nt tc, .slice KA nk kc] 26)).alloc (.cells #[.slice A lp c, .int .i64 p.2] 29) := ⟨_, rfl⟩
 have hb0 : Below w.heap.size w W0 := hW ▸ kM (Below.refl _ _) (Nat.le_refl _)
 have e0 := zK2 w (Obj.cells #[Value.bool lf, .slice PA np pc, .slice TA nt tc, .slice KA nk kc] 26) (Obj.cells #[Value.slice A lp c, Value.int .i64 p.2] 29)
 rw [<- hW] at e0
 have HK := hd (show ∀ W, Below W0.heap.size W0 W -> (W.cell? ⟨w.heap.size, 0, none⟩ = some (.bool lf) /\ W.cell? ⟨w.heap.size, 1, none⟩ = some (.slice PA np pc) /\ W.cell? ⟨w.heap.size, 2, none⟩ = some (.slice TA nt tc) /\ W.cell? ⟨w.heap.size, 3, none⟩ = some (.slice KA nk kc) /\ W.cell? ⟨w.heap.size + 1, 0, none⟩ = some (.slice A lp c) /\ W.cell? ⟨w.heap.size + 1, 1, none⟩ = some (.int .i64 p.2)) from fun W h => by
  have h1 := zJ (kI e0.1 h)
  have h2 := kM8 (kI e0.2 h)
  exact ⟨h1.1, h1.2.1, h1.2.2.1, h1.2.2.2.1, h2.1, h2.2.1⟩)
 obtain ⟨x0, x1, x2, x3, y0, y1⟩ := HK.out _ (Below.refl _ _)
 have HW := hd hW
 have HB0 := hd hb0
 have hC := zU9 d W0 _ n A p.1 lp c hlp hl (hn.later hb0) (hp.later hb0)
 clear hn hp hW hb0 e0 hlp hl
 obtain ⟨o, ho⟩ : ∃ o, o = p.2 := ⟨_, rfl⟩
 cases hg : kB n p.1 with
 | none =>
  rw [zB2 hg] at hC
  have HC := hd hC
  have HF := hd (show zK6 n p = 5 by unfold zK6; rw [hg])
  have HM1 := hd (show ((zeroT, 5) : NT × Int).1 = .mk false [] [] [] from rfl)
  clear hg hC ho o
  go_enter Tryz.func56, Tryz.ntmps56
  exact kOf
 | some m =>
  rw [kP hg] at hC
  have HC := hd hC
  cases m with
  | mk ml mp mx mk =>
   have hF : zK6 n p = if ml = false then 7 else if p.2 < 0 ∨ (mx.length : Int) < p.2 then 8 else 0 := by unfold zK6; rw [hg]; rfl
   have HM1 := hd (show ((NT.mk ml mp mx mk, 0) : NT × Int).1 = .mk ml mp mx mk from rfl)
   clear hg hC
   cases ml with
   | false =>
    have HF := hd (hF.trans (if_pos rfl))
    clear hF ho o
    go_enter Tryz.func56, Tryz.ntmps56
    exact kOf
   | true =>
    rw [if_neg (by simp)] at hF
    rw [<- ho] at hF y1 HK HW ⊢
    by_cases h1 : o < 0
    ·have HF := hd (hF.trans (if_pos (.inl h1)))
     clear hF ho
     go_enter Tryz.func56, Tryz.ntmps56
     exact kOf
    ·by_cases h2 : (mx.length : Int) < o
     ·have HF := hd (hF.trans (if_pos (.inr h2)))
      clear hF ho
      go_enter Tryz.func56, Tryz.ntmps56
      exact kOf
     ·have HF := hd (hF.trans (if_neg (by omega)))
      clear hF ho
      go_enter Tryz.func56, Tryz.ntmps56
      exact kOf
structure Sl where
 is : Bool
 a : List Int × Int
 f : List Int × Int
def zF7 (s t : Sl) : Bool := s.is == t.is && samP s.a t.a && samP s.f t.f
def zE8 (n : NT) (s : Sl) : Int := if s.is = false then (if samP s.a ([], 0) = true /\ samP s.f ([], 0) = true then 0 else 1) else if zK6 n s.a = 0 then zK6 n s.f else zK6 n s.a
theorem kGy {w : World} {g : Nat} {a b c d e : Value} {t : TypeId} (h : w.heap[g]? = some (.cells #[a, b, c, d, e] t (0, 0))) : w.cell? ⟨g, 0, none⟩ = some a /\ w.cell? ⟨g, 1, none⟩ = some b /\ w.cell? ⟨g, 2, none⟩ = some c /\ w.cell? ⟨g, 3, none⟩ = some d /\ w.cell? ⟨g, 4, none⟩ = some e := by
 refine ⟨?_, ?_, ?_, ?_, ?_⟩ <;> simp [World.cell?, h]
theorem zI4.zero (w : World) : zI4 w (.agg #[.slice none 0 0, .int .i64 0]) ([], 0) := ⟨none, 0, 0, rfl, rfl, by omega, Nat.le_refl _, IL.nil _ _ _⟩
theorem kP8 {P : Prop} (h : P := by
 go_wp2_with (first
  | (go_at_call 57; have _g := HB1; refine Calls.mono (HC2.out _ HB1.out) ?_; rintro e w2 ⟨rfl, b2⟩; have HB2 := hd (HB1.out.trans (b2.mono HB1.out.size)); clear b2)
  | (go_at_call 57; rw [HW.out]; refine Calls.mono (HC1.out _ (Below.refl _ _)) ?_; rintro e w1 ⟨rfl, b1⟩; have HB1 := hd b1; clear b1 x0 x1 x2 x3 x4 y0 y1 y2 y3 y4; obtain ⟨x0, x1, x2, x3, x4, y0, y1, y2, y3, y4⟩ := HK.out _ HB1.out)
  | fail)
 go_ret
 first
  | exact ⟨kC (by simp), HB0.out.trans (HB2.out.mono HB0.out.size)⟩
  | exact ⟨kC (by simp), HB0.out.trans (HB1.out.mono HB0.out.size)⟩
  | fail) : P := h
theorem zL4 (w : World) (s t : Sl) (A B C D : Option Addr) (na nb nc nd ca cb cc cd : Nat) (hA : zI4 w (.agg #[.slice A na ca, .int .i64 s.a.2]) s.a) (hB : zI4 w (.agg #[.slice B nb cb, .int .i64 s.f.2]) s.f) (hC : zI4 w (.agg #[.slice C nc cc, .int .i64 t.a.2]) t.a) (hD : zI4 w (.agg #[.slice D nd cd, .int .i64 t.f.2]) t.f) :
  Calls Tryz.prog 20 #[.agg #[.bool s.is, .slice A na ca, .int .i64 s.a.2, .slice B nb cb, .int .i64 s.f.2], .agg #[.bool t.is, .slice C nc cc, .int .i64 t.a.2, .slice D nd cd, .int .i64 t.f.2]] w (jA (.bool (zF7 s t)) w) := by
 obtain ⟨si, sa, sf⟩ := s
 obtain ⟨ti, ta, tf⟩ := t
 simp only at hA hB hC hD ⊢
 obtain ⟨W0, hW⟩ : ∃ W0, (w.alloc (.cells #[.bool si, .slice A na ca, .int .i64 sa.2, .slice B nb cb, .int .i64 sf.2] 33)).alloc (.cells #[.bool ti, .slice C nc cc, .int .i64 ta.2, .slice D nd cd, .int .i64 tf.2] 33) = W0 := ⟨_, rfl⟩
 have hb0 : Below w.heap.size w W0 := hW ▸ kM (Below.refl _ _) (Nat.le_refl _)
 have e0 := zK2 w (Obj.cells #[Value.bool si, .slice A na ca, .int .i64 sa.2, .slice B nb cb, .int .i64 sf.2] 33) (Obj.cells #[Value.bool ti, .slice C nc cc, .int .i64 ta.2, .slice D nd cd, .int .i64 tf.2] 33)
 rw [hW] at e0
 have HK := hd (show ∀ W, Below W0.heap.size W0 W -> (W.cell? ⟨w.heap.size, 0, none⟩ = some (.bool si) /\ W.cell? ⟨w.heap.size, 1, none⟩ = some (.slice A na ca) /\ W.cell? ⟨w.heap.size, 2, none⟩ = some (.int .i64 sa.2) /\ W.cell? ⟨w.heap.size, 3, none⟩ = some (.slice B nb cb) /\ W.cell? ⟨w.heap.size, 4, none⟩ = some (.int .i64 sf.2) /\
   W.cell? ⟨w.heap.size + 1, 0, none⟩ = some (.bool ti) /\ W.cell? ⟨w.heap.size + 1, 1, none⟩ = some (.slice C nc cc) /\ W.cell? ⟨w.heap.size + 1, 2, none⟩ = some (.int .i64 ta.2) /\ W.cell? ⟨w.heap.size + 1, 3, none⟩ = some (.slice D nd cd) /\ W.cell? ⟨w.heap.size + 1, 4, none⟩ = some (.int .i64 tf.2)) from fun W h => by
  obtain ⟨h0, h1, h2, h3, h4⟩ := kGy (kI e0.1 h)
  obtain ⟨g0, g1, g2, g3, g4⟩ := kGy (kI e0.2 h)
  exact ⟨h0, h1, h2, h3, h4, g0, g1, g2, g3, g4⟩)
 obtain ⟨x0, x1, x2, x3, x4, y0, y1, y2, y3, y4⟩ := HK.out _ (Below.refl _ _)
 have HW := hd hW
 have HB0 := hd hb0
 obtain ⟨E1, hE1⟩ : ∃ E1, samP sa ta = E1 := ⟨_, rfl⟩
 obtain ⟨E2, hE2⟩ : ∃ E2, samP sf tf = E2 := ⟨_, rfl⟩
 have HC1 := hd (fun (W : World) (h : Below W0.heap.size W0 W) => hE1 ▸ zYt (w := W0) (W := W) h (hA.later hb0) (hC.later hb0))
 have HC2 := hd (fun (W : World) (h : Below W0.heap.size W0 W) => hE2 ▸ zYt (w := W0) (W := W) h (hB.later hb0) (hD.later hb0))
 have hF : zF7 ⟨si, sa, sf⟩ ⟨ti, ta, tf⟩ = (si == ti && E1 && E2) := by unfold zF7; rw [hE1, hE2]
 rw [hF]
 clear hF hE1 hE2 hA hB hC hD hW hb0 e0
 by_cases hi : si = ti
 ·subst hi
  have g1 : (si == si) = true := by simp
  cases E1 with
  | true =>
   go_enter Tryz.func20, Tryz.ntmps20
   exact kP8
  | false =>
   go_enter Tryz.func20, Tryz.ntmps20
   exact kP8
 ·have g1 : (si == ti) = false := by simpa using hi
  clear hi
  go_enter Tryz.func20, Tryz.ntmps20
  go_wp2_with (first
   | (go_at_call 57; have _g := HB1; refine Calls.mono (HC2.out _ HB1.out) ?_; rintro e w2 ⟨rfl, b2⟩; have HB2 := hd (HB1.out.trans (b2.mono HB1.out.size)); clear b2)
   | (go_at_call 57; rw [HW.out]; refine Calls.mono (HC1.out _ (Below.refl _ _)) ?_; rintro e w1 ⟨rfl, b1⟩; have HB1 := hd b1; clear b1 x0 x1 x2 x3 x4 y0 y1 y2 y3 y4; obtain ⟨x0, x1, x2, x3, x4, y0, y1, y2, y3, y4⟩ := HK.out _ HB1.out))
  rw [HW.out]
  go_ret
  exact ⟨kC (by simp [g1]), HB0.out⟩
theorem zUl {d : Nat} {w W : World} {u v : Value} {n : NT} {p : List Int × Int} (hb : Below w.heap.size w W) (hn : zV d w w.heap.size u n) (hp : zI4 w v p) : Calls Tryz.prog 56 #[u, v] W (jA (.int .i64 (zK6 n p)) W) := by
 obtain ⟨A, m, c, rfl, h1, h2, _, h3⟩ := hp.later hb
 exact zSt d W u n A p m c h1 h2 (hn.later hb) h3
theorem zK5 (d : Nat) (w : World) (v : Value) (n : NT) (p q : List Int × Int) (A B : Option Addr) (na nb ca cb : Nat) (hn : zV d w w.heap.size v n) (hA : zI4 w (.agg #[.slice A na ca, .int .i64 p.2]) p) (hB : zI4 w (.agg #[.slice B nb cb, .int .i64 q.2]) q) :
  Calls Tryz.prog 19 #[v, .agg #[.bool true, .slice A na ca, .int .i64 p.2, .slice B nb cb, .int .i64 q.2]] w (jA (.int .i64 (zE8 n ⟨true, p, q⟩)) w) := by
 obtain ⟨lf, PA, np, pc, TA, nt, tc, KA, nk, kc, rfl⟩ := hn.val
 obtain ⟨W0, hW⟩ : ∃ W0, (w.alloc (.cells #[.bool lf, .slice PA np pc, .slice TA nt tc, .slice KA nk kc] 26)).alloc (.cells #[.bool true, .slice A na ca, .int .i64 p.2, .slice B nb cb, .int .i64 q.2] 33) = W0 := ⟨_, rfl⟩
 have hb0 : Below w.heap.size w W0 := hW ▸ kM (Below.refl _ _) (Nat.le_refl _)
 have e0 := zK2 w (Obj.cells #[Value.bool lf, .slice PA np pc, .slice TA nt tc, .slice KA nk kc] 26) (Obj.cells #[Value.bool true, .slice A na ca, .int .i64 p.2, .slice B nb cb, .int .i64 q.2] 33)
 rw [hW] at e0
 have HK := hd (show ∀ W, Below W0.heap.size W0 W -> (W.cell? ⟨w.heap.size, 0, none⟩ = some (.bool lf) /\ W.cell? ⟨w.heap.size, 1, none⟩ = some (.slice PA np pc) /\ W.cell? ⟨w.heap.size, 2, none⟩ = some (.slice TA nt tc) /\ W.cell? ⟨w.heap.size, 3, none⟩ = some (.slice KA nk kc) /\
   W.cell? ⟨w.heap.size + 1, 0, none⟩ = some (.bool true) /\ W.cell? ⟨w.heap.size + 1, 1, none⟩ = some (.slice A na ca) /\ W.cell? ⟨w.heap.size + 1, 2, none⟩ = some (.int .i64 p.2) /\ W.cell? ⟨w.heap.size + 1, 3, none⟩ = some (.slice B nb cb) /\ W.cell? ⟨w.heap.size + 1, 4, none⟩ = some (.int .i64 q.2)) from fun W h => by
  have h1 := zJ (kI e0.1 h)
  obtain ⟨g0, g1, g2, g3, g4⟩ := kGy (kI e0.2 h)
  exact ⟨h1.1, h1.2.1, h1.2.2.1, h1.2.2.2.1, g0, g1, g2, g3, g4⟩)
 obtain ⟨x0, x1, x2, x3, y0, y1, y2, y3, y4⟩ := HK.out _ (Below.refl _ _)
 have HW := hd hW
 have HB0 := hd hb0
 obtain ⟨E1, hE1⟩ : ∃ E1, zK6 n p = E1 := ⟨_, rfl⟩
 obtain ⟨E2, hE2⟩ : ∃ E2, zK6 n q = E2 := ⟨_, rfl⟩
 have hF : zE8 n ⟨true, p, q⟩ = if E1 = 0 then E2 else E1 := by unfold zE8; rw [if_neg (by simp), hE1, hE2]
 rw [hF]
 have HC1 := hd (fun (W : World) (h : Below W0.heap.size W0 W) => hE1 ▸ zUl (w := W0) (W := W) h (hn.later hb0) (hA.later hb0))
 have HC2 := hd (fun (W : World) (h : Below W0.heap.size W0 W) => hE2 ▸ zUl (w := W0) (W := W) h (hn.later hb0) (hB.later hb0))
 clear hF hE1 hE2 hn hA hB hW hb0 e0
 by_cases h0 : E1 = 0
 ·subst h0
  go_enter Tryz.func19, Tryz.ntmps19
  go_wp2_with (first
   | (go_at_call 56; have _g := HB1; refine Calls.mono (HC2.out _ HB1.out) ?_; rintro e w2 ⟨rfl, b2⟩; have HB2 := hd (HB1.out.trans (b2.mono HB1.out.size)); clear b2)
   | (go_at_call 56; rw [HW.out]; refine Calls.mono (HC1.out _ (Below.refl _ _)) ?_; rintro e w1 ⟨rfl, b1⟩; have HB1 := hd b1; clear b1 x0 x1 x2 x3 y0 y1 y2 y3 y4; obtain ⟨x0, x1, x2, x3, y0, y1, y2, y3, y4⟩ := HK.out _ HB1.out))
  go_ret
  exact ⟨zAj (by simp), HB0.out.trans (HB2.out.mono HB0.out.size)⟩
 ·have g1 : (E1 != 0) = true := by simp [h0]
  rw [if_neg h0]
  clear h0
  go_enter Tryz.func19, Tryz.ntmps19
  go_wp2_with (first
   | (go_at_call 56; rw [HW.out]; refine Calls.mono (HC1.out _ (Below.refl _ _)) ?_; rintro e w1 ⟨rfl, b1⟩; have HB1 := hd b1; clear b1 x0 x1 x2 x3 y0 y1 y2 y3 y4; obtain ⟨x0, x1, x2, x3, y0, y1, y2, y3, y4⟩ := HK.out _ HB1.out))
  go_ret
  exact ⟨rfl, HB0.out.trans (HB1.out.mono HB0.out.size)⟩
theorem zL5 (d : Nat) (w : World) (v : Value) (n : NT) (p q : List Int × Int) (A B : Option Addr) (na nb ca cb : Nat) (hn : zV d w w.heap.size v n) (hA : zI4 w (.agg #[.slice A na ca, .int .i64 p.2]) p) (hB : zI4 w (.agg #[.slice B nb cb, .int .i64 q.2]) q) :
  Calls Tryz.prog 19 #[v, .agg #[.bool false, .slice A na ca, .int .i64 p.2, .slice B nb cb, .int .i64 q.2]] w (jA (.int .i64 (zE8 n ⟨false, p, q⟩)) w) := by
 obtain ⟨lf, PA, np, pc, TA, nt, tc, KA, nk, kc, rfl⟩ := hn.val
 obtain ⟨W0, hW⟩ : ∃ W0, (w.alloc (.cells #[.bool lf, .slice PA np pc, .slice TA nt tc, .slice KA nk kc] 26)).alloc (.cells #[.bool false, .slice A na ca, .int .i64 p.2, .slice B nb cb, .int .i64 q.2] 33) = W0 := ⟨_, rfl⟩
 have hb0 : Below w.heap.size w W0 := hW ▸ kM (Below.refl _ _) (Nat.le_refl _)
 have e0 := zK2 w (Obj.cells #[Value.bool lf, .slice PA np pc, .slice TA nt tc, .slice KA nk kc] 26) (Obj.cells #[Value.bool false, .slice A na ca, .int .i64 p.2, .slice B nb cb, .int .i64 q.2] 33)
 rw [hW] at e0
 have HK := hd (show ∀ W, Below W0.heap.size W0 W -> (W.cell? ⟨w.heap.size + 1, 0, none⟩ = some (.bool false) /\ W.cell? ⟨w.heap.size + 1, 1, none⟩ = some (.slice A na ca) /\ W.cell? ⟨w.heap.size + 1, 2, none⟩ = some (.int .i64 p.2) /\ W.cell? ⟨w.heap.size + 1, 3, none⟩ = some (.slice B nb cb) /\ W.cell? ⟨w.heap.size + 1, 4, none⟩ = some (.int .i64 q.2)) from fun W h => kGy (kI e0.2 h))
 obtain ⟨y0, y1, y2, y3, y4⟩ := HK.out _ (Below.refl _ _)
 have HW := hd hW
 have HB0 := hd hb0
 obtain ⟨E, hE⟩ : ∃ E, zF7 ⟨false, p, q⟩ ⟨false, ([], 0), ([], 0)⟩ = E := ⟨_, rfl⟩
 have HC := hd (hE ▸ zL4 W0 ⟨false, p, q⟩ ⟨false, ([], 0), ([], 0)⟩ A B none none na nb 0 0 ca cb 0 0 (hA.later hb0) (hB.later hb0) (zI4.zero _) (zI4.zero _))
 have hF : zE8 n ⟨false, p, q⟩ = if E = true then 0 else 1 := by
  unfold zE8
  rw [if_pos rfl, <- hE]
  unfold zF7
  simp
 rw [hF]
 clear hF hE hn hA hB hW hb0 e0
 cases E <;>
 ·go_enter Tryz.func19, Tryz.ntmps19
  go_wp2_with (go_at_call 20; rw [HW.out]; refine Calls.mono HC.out ?_; rintro e w1 ⟨rfl, b1⟩; have HB1 := hd b1; clear b1)
  go_ret
  exact ⟨rfl, HB0.out.trans (HB1.out.mono HB0.out.size)⟩
theorem zSu {d : Nat} {w W : World} {v : Value} {n : NT} {b : Bool} {p q : List Int × Int} {A B : Option Addr} {na nb ca cb : Nat} (h : Below w.heap.size w W) (hn : zV d w w.heap.size v n) (hA : zI4 w (.agg #[.slice A na ca, .int .i64 p.2]) p) (hB : zI4 w (.agg #[.slice B nb cb, .int .i64 q.2]) q) :
  Calls Tryz.prog 19 #[v, .agg #[.bool b, .slice A na ca, .int .i64 p.2, .slice B nb cb, .int .i64 q.2]] W (jA (.int .i64 (zE8 n ⟨b, p, q⟩)) W) := by
 cases b
 ·exact zL5 d W v n p q A B na nb ca cb (hn.later h) (hA.later h) (hB.later h)
 ·exact zK5 d W v n p q A B na nb ca cb (hn.later h) (hA.later h) (hB.later h)
end Go.Proofs.YtmkciabefepelaaGreat
namespace Go.Proofs.YtmkciabefepelaaGreat
def jI (l : List Int) : Bool := l.all fun n => decide (0 <= n) && decide (n <= 1048576)
theorem zDf (l : List Int) : jI l = true ↔ ∀ k, k < l.length -> 0 <= iAt l k /\ iAt l k <= 1048576 := by
 unfold jI
 simp only [List.all_eq_true, Bool.and_eq_true, decide_eq_true_iff]
 constructor
 ·intro h k hk; rw [jY l k hk]; exact h _ (List.getElem_mem hk)
 ·intro h x hx
  obtain ⟨k, hk, rfl⟩ := List.getElem_of_mem hx
  have := h k hk
  rwa [jY l k hk] at this
theorem zQx (l : List Int) (k : Nat) (hk : k < l.length) (h : ¬ (0 <= iAt l k /\ iAt l k <= 1048576)) : jI l = false := by
 cases e : jI l
 ·rfl
 ·exact absurd ((zDf l).1 e k hk) h
def zE9 (n : Int) : Bool := decide (0 <= n) && decide (n <= 1048576)
theorem zN2 (n : Int) : jI [n] = zE9 n := by simp [jI, zE9]
theorem zKd (n : Int) : zE9 n = true ↔ 0 <= n /\ n <= 1048576 := by simp [zE9]
def addL (l : List Int) (k : Nat) (v : Int) : List Int := l.set k (iAt l k + v)
theorem zJe (l : List Int) (k : Nat) (v : Int) : (addL l k v).length = l.length := by simp [addL]
theorem zSv (l : List Int) (k : Nat) (v : Int) (h : k < l.length) : iAt (addL l k v) k = iAt l k + v := by
 rw [jY _ k (by rw [zJe]; exact h)]; simp [addL]
theorem zYu (l : List Int) (k j : Nat) (v : Int) (h : j ≠ k) : iAt (addL l k v) j = iAt l j := by
 unfold iAt addL
 rw [List.getD_eq_getElem?_getD, List.getD_eq_getElem?_getD, List.getElem?_set_ne (by omega)]
def plusL (l : List Int) (k : Nat) : List Int -> List Int
 | [] => l
 | v :: by_ => plusL (addL l k v) (k + 1) by_
theorem zJf (by_ : List Int) : ∀ (l : List Int) (k : Nat), (plusL l k by_).length = l.length := by
 induction by_ with
 | nil => intro l k; rfl
 | cons v r ih => intro l k; rw [plusL, ih, zJe]
theorem zVx (r : List Int) (v : Int) : ∀ (l : List Int) (k : Nat), plusL l k (r ++ [v]) = addL (plusL l k r) (k + r.length) v := by
 induction r with
 | nil => intro l k; rfl
 | cons x r ih => intro l k; rw [List.cons_append, plusL, plusL, ih]; rw [show k + 1 + r.length = k + (x :: r).length by simp; omega]
theorem zVy (by_ : List Int) (l : List Int) (k n : Nat) (hn : n < by_.length) : plusL l k (by_.take (n + 1)) = addL (plusL l k (by_.take n)) (k + n) (iAt by_ n) := by
 rw [List.take_add_one, List.getElem?_eq_getElem hn]
 simp only [Option.toList_some]
 rw [zVx, jY by_ n hn]
 congr 2
 simp; omega
theorem zN3 (by_ : List Int) : ∀ (l : List Int) (k j : Nat), k + by_.length <= j -> iAt (plusL l k by_) j = iAt l j := by
 induction by_ with
 | nil => intro l k j h; rfl
 | cons v r ih => intro l k j h; simp at h; rw [plusL, ih _ _ _ (by omega), zYu _ _ _ _ (by omega)]
def zX (q p : List Int) : Int := if zFg q p then 1 else if zEd q p then 2 else if zBu q p then 3 else 0
theorem zIv (q p : List Int) : zX q p = 1 ↔ zFg q p = true := by unfold zX; split <;> rename_i h <;> simp [h]; split <;> (try split) <;> simp
theorem zYv (p : List Int) : zFg p p = false := by
 cases h : zFg p p
 ·rfl
 ·rw [zEe] at h; omega
theorem zVz {q p : List Int} (h : zBu q p = true) : zFg q p = false := by
 cases h2 : zFg q p
 ·rfl
 ·rw [zEe] at h2
  rw [zE0, <- zDg] at h
  omega
theorem kI1 {q p : List Int} (h : zBu q p = true) : zEd q p = false := by
 cases h2 : zEd q p
 ·rfl
 ·unfold zEd at h2
  rw [of_decide_eq_true h2] at h
  rw [zE0] at h
  omega
theorem zAt (q p : List Int) : (zX q p = 1 /\ zFg q p = true /\ zEd q p = false /\ zBu q p = false) ∨ (zX q p = 2 /\ zFg q p = false /\ zEd q p = true /\ zBu q p = false) ∨ (zX q p = 3 /\ zFg q p = false /\ zEd q p = false /\ zBu q p = true) ∨ (zX q p = 0 /\ zFg q p = false /\ zEd q p = false /\ zBu q p = false) := by
 unfold zX
 cases h1 : zFg q p
 ·cases h2 : zEd q p
  ·cases h3 : zBu q p
   ·simp
   ·simp
  ·have : q = p := by unfold zEd at h2; exact of_decide_eq_true h2
   subst this
   have : zBu q q = false := by
    cases h3 : zBu q q
    ·rfl
    ·rw [zE0] at h3; omega
   simp [this]
 ·have h2 : zEd q p = false := by
   cases h2 : zEd q p
   ·rfl
   ·unfold zEd at h2
    rw [of_decide_eq_true h2, zYv] at h1; cases h1
  have h3 : zBu q p = false := by
   cases h3 : zBu q p
   ·rfl
   ·rw [zVz h3] at h1; cases h1
  simp [h2, h3]
def noR : List Int × Bool := ([], false)
def jH (k : Int) (q : List Int) (pos : Int) (p : List Int) : List Int × Bool :=
 if q.length = 0 then (p, true)
 else if k = 1 then (if zX q p = 0 then (p, true) else (plusL p (q.length - 1) [1], true))
 else if k = 2 then (if zX q p = 0 then (p, true) else if zX q p = 1 then (plusL p (q.length - 1) [-1], true) else noR)
 else if k = 3 then (if lastL q = 0 then noR else if zX q p = 0 then (p, true) else if zX q p = 3 then (plusL p (q.length - 1) [-1, pos], true) else (plusL p (q.length - 1) [-1], true))
 else if k = 4 then (if zX q p = 1 then (plusL p (q.length - 1) [1], true) else if zX q p = 3 /\ pos <= iAt p q.length then (plusL p (q.length - 1) [1, -pos], true) else (p, true))
 else (p, true)
def jF (k : Int) (q t : List Int) (pos : Int) (p : List Int) : List Int × Bool :=
 if jI p && jI q && jI t && zE9 pos then
  if k = 5 /\ q.length ≠ 0 then (if zX q p = 2 ∨ zX q p = 3 then (t ++ p.drop q.length, true) else jH 1 t 0 (jH 2 q 0 p).1)
  else jH k q pos p
 else noR
theorem kCo (a b : List Int) (k : Nat) (h1 : k <= a.length) (h2 : k <= b.length) (h : ∀ j, j < k -> iAt a j = iAt b j) : k <= kO a b := by
 rcases Nat.lt_or_ge (kO a b) k with hl | hg
 ·exact absurd (h _ hl) (zQl a b (by omega) (by omega))
 ·exact hg
theorem zCw {q p : List Int} : zX q p = 2 ↔ q = p := by
 rcases zAt q p with ⟨h0, _, h2, _⟩ | ⟨h0, _, h2, _⟩ | ⟨h0, _, h2, _⟩ | ⟨h0, _, h2, _⟩
 ·rw [h0]; unfold zEd at h2; have := of_decide_eq_false h2; simp [this]
 ·rw [h0]; unfold zEd at h2; have := of_decide_eq_true h2; simp [this]
 ·rw [h0]; unfold zEd at h2; have := of_decide_eq_false h2; simp [this]
 ·rw [h0]; unfold zEd at h2; have := of_decide_eq_false h2; simp [this]
theorem zL6 {q p : List Int} : zX q p = 3 ↔ q.length < p.length /\ ∀ j, j < q.length -> iAt q j = iAt p j := by
 have hx : zBu q p = true ↔ q.length < p.length /\ ∀ j, j < q.length -> iAt q j = iAt p j := by
  rw [zE0]
  constructor
  ·rintro ⟨h1, h2⟩; exact ⟨h1, fun j hj => zYj h2 hj⟩
  ·rintro ⟨h1, h2⟩
   refine ⟨h1, (zDg q p).1 ?_⟩
   have := kCo q p q.length (Nat.le_refl _) (by omega) h2
   have := (zHf q p).1
   omega
 rw [<- hx]
 rcases zAt q p with ⟨h0, _, _, h2⟩ | ⟨h0, _, _, h2⟩ | ⟨h0, _, _, h2⟩ | ⟨h0, _, _, h2⟩ <;> simp [h0, h2]
theorem zJg {q p : List Int} {k : Nat} (hk : q.length = k + 1) (h : zX q p = 2 ∨ zX q p = 3) : k < p.length /\ ∀ j, j < k + 1 -> iAt q j = iAt p j := by
 rcases h with h | h
 ·rw [zCw] at h; subst h; exact ⟨by omega, fun _ _ => rfl⟩
 ·rw [zL6] at h; exact ⟨by omega, fun j hj => h.2 j (by omega)⟩
theorem kFe {q p : List Int} {k : Nat} (hk : q.length = k + 1) : jH 1 q 0 p = (if zX q p = 0 then p else addL p k 1, true) := by
 unfold jH; rw [if_neg (by omega), if_pos rfl, hk]; split <;> rfl
theorem kCp {q : List Int} {k : Nat} (hk : q.length = k + 1) (hq : jI q = true) : zBg q = (addL q k 1, 0) := by
 have q0 := (zDf q).1 hq k (by omega)
 have hl : lastL q = iAt q k := by rw [lastL, hk, Nat.add_sub_cancel]
 unfold zBg
 rw [if_neg (by omega), hl, if_neg (by omega)]
 unfold sib addL
 rw [hk, Nat.add_sub_cancel]
theorem jD {K pos : Int} {q t p x : List Int} (h : jF K q t pos p = (x, true)) (hK : K ≠ 5) : jH K q pos p = (x, true) := by
 unfold jF at h
 split at h
 ·rw [if_neg (fun h => hK h.1)] at h; exact h
 ·cases h
theorem zL7 {K pos : Int} {q p : List Int} : (jH K q pos p).1.length <= p.length := by
 unfold jH
 repeat' split
 all_goals simp [noR, zJf]
theorem zQy {K pos : Int} {q t p : List Int} : (jF K q t pos p).1.length <= p.length + t.length := by
 unfold jF
 split
 ·split
  ·split
   ·simp; omega
   ·have h1 := zL7 (K := 1) (pos := 0) (q := t) (p := (jH 2 q 0 p).1)
    have h2 := zL7 (K := 2) (pos := 0) (q := q) (p := p)
    omega
  ·have := zL7 (K := K) (pos := pos) (q := q) (p := p); omega
 ·simp [noR]
end Go.Proofs.YtmkciabefepelaaGreat
namespace Go.Proofs.YtmkciabefepelaaGreat
open Go.RowKit
structure OpP where
 k : Int
 q : List Int
 t : List Int
 z : Int
 n : NT
 o : List Pr
 w : List Pr
 x : List Int
 f : Sl
 g : Sl
def zeroS : Sl := ⟨false, ([], 0), ([], 0)⟩
def zeroO : OpP := ⟨0, [], [], 0, zeroT, [], [], [], zeroS, zeroS⟩
noncomputable def eqO (a b : OpP) : Bool := @decide (a = b) (Classical.propDecidable _)
theorem kCq (a : OpP) : eqO a a = true := by unfold eqO; exact @decide_eq_true _ (Classical.propDecidable _) rfl
theorem zSw {a b : OpP} (h : a = b) : eqO a b = true := by subst h; exact kCq a
theorem kJz {a b : OpP} (h : a ≠ b) : eqO a b = false := by unfold eqO; exact @decide_eq_false _ (Classical.propDecidable _) h
theorem kFf {a b : OpP} (h : eqO a b = true) : a = b := by
 rcases Classical.em (a = b) with e | e
 ·exact e
 ·rw [kJz e] at h; cases h
theorem zSx (a b : OpP) : eqO a b = true ↔ a = b := ⟨kFf, zSw⟩
theorem zIw (a b : NT) : eqT a b = true ↔ a = b := ⟨fun h => Classical.byContradiction fun e => (by rw [zUx e] at h; cases h), zPc⟩
theorem zC4 (s t : Sl) : zF7 s t = true ↔ s = t := by
 obtain ⟨a, b, c⟩ := s
 obtain ⟨d, e, f⟩ := t
 simp [zF7, samP, and_assoc]
theorem zYw (a b : OpP) : eqO a b = (a.k == b.k && zEd a.q b.q && zEd a.t b.t && (a.z == b.z) && eqT a.n b.n && decide (a.o = b.o) && decide (a.w = b.w) && sameL a.x b.x && zF7 a.f b.f && zF7 a.g b.g) := by
 rw [Bool.eq_iff_iff, zSx]
 simp only [Bool.and_eq_true, beq_iff_eq, zIw, zC4, zEd, sameL, decide_eq_true_iff]
 obtain ⟨a1, a2, a3, a4, a5, a6, a7, a8, a9, a10⟩ := a
 obtain ⟨b1, b2, b3, b4, b5, b6, b7, b8, b9, b10⟩ := b
 simp only [OpP.mk.injEq, and_assoc]
def zA0 (k : Int) : Int := if k = 1 then 2 else if k = 2 then 1 else if k = 3 then 4 else if k = 4 then 3 else if k = 5 then 5 else if k = 6 then 6 else if k = 7 then 8 else if k = 8 then 7 else if k = 9 then 9 else 0
def kindB (k : Int) : Bool := decide (1 <= k) && decide (k <= 9)
theorem zV0 {k : Int} (h : 1 <= k) (h2 : k <= 9) : k = 1 ∨ k = 2 ∨ k = 3 ∨ k = 4 ∨ k = 5 ∨ k = 6 ∨ k = 7 ∨ k = 8 ∨ k = 9 := by omega
theorem zH7 (k : Int) : zA0 k = 0 ↔ kindB k = false := by
 by_cases h1 : 1 <= k
 ·by_cases h2 : k <= 9
  ·rcases zV0 h1 h2 with rfl | rfl | rfl | rfl | rfl | rfl | rfl | rfl | rfl <;> decide
  ·simp only [zA0, kindB, decide_eq_false h2, Bool.and_false, iff_true]
   rw [if_neg (by omega), if_neg (by omega), if_neg (by omega), if_neg (by omega), if_neg (by omega), if_neg (by omega), if_neg (by omega), if_neg (by omega), if_neg (by omega)]
 ·simp only [zA0, kindB, decide_eq_false h1, Bool.false_and, iff_true]
  rw [if_neg (by omega), if_neg (by omega), if_neg (by omega), if_neg (by omega), if_neg (by omega), if_neg (by omega), if_neg (by omega), if_neg (by omega), if_neg (by omega)]
def jB (o : OpP) : OpP :=
 if o.k = 1 then { o with q := [], n := zeroT } else if o.k = 2 then { o with q := [], n := zeroT } else if o.k = 3 then { o with q := [], z := 0, o := [] } else if o.k = 4 then { o with q := [], z := 0, w := [] } else
 if o.k = 5 then { o with q := [], t := [] } else if o.k = 6 then { o with q := [], o := [], w := [] } else if o.k = 7 then { o with q := [], z := 0, x := [] } else if o.k = 8 then { o with q := [], z := 0, x := [] } else if o.k = 9 then { o with f := zeroS, g := zeroS } else o
def fieldsO (o : OpP) : OpP :=
 if o.k = 1 then { zeroO with k := o.k, q := o.q, n := o.n } else if o.k = 2 then { zeroO with k := o.k, q := o.q, n := o.n } else if o.k = 3 then { zeroO with k := o.k, q := o.q, z := o.z, o := o.o } else if o.k = 4 then { zeroO with k := o.k, q := o.q, z := o.z, w := o.w } else
 if o.k = 5 then { zeroO with k := o.k, q := o.q, t := o.t } else if o.k = 6 then { zeroO with k := o.k, q := o.q, o := o.o, w := o.w } else if o.k = 7 then { zeroO with k := o.k, q := o.q, z := o.z, x := o.x } else if o.k = 8 then { zeroO with k := o.k, q := o.q, z := o.z, x := o.x } else if o.k = 9 then { zeroO with k := o.k, f := o.f, g := o.g } else { zeroO with k := o.k, q := o.q }
noncomputable def bareB (o : OpP) : Bool := eqO o { zeroO with k := o.k }
noncomputable def zCx (o : OpP) : Int := if zA0 o.k = 0 then 1 else if bareB (jB o) = true then 0 else 1
theorem zSy (o : OpP) (h : kindB o.k = true) : bareB (jB o) = eqO (fieldsO o) o := by
 simp only [kindB, Bool.and_eq_true, decide_eq_true_iff] at h
 rw [Bool.eq_iff_iff, bareB, zSx, zSx]
 obtain ⟨k, q, t, z, n, o, w, x, f, g⟩ := o
 simp only at h
 rcases zV0 h.1 h.2 with rfl | rfl | rfl | rfl | rfl | rfl | rfl | rfl | rfl <;> (constructor <;> (intro h; simp [jB, fieldsO, zeroO] at h ⊢; (try simp only [@eq_comm _ zeroS, @eq_comm _ zeroT, @eq_comm _ (0 : Int)] at h); simp [h]))
theorem zL8 (o : OpP) : zCx o = if (kindB o.k && eqO (fieldsO o) o) = true then 0 else 1 := by
 unfold zCx
 cases h : kindB o.k
 ·rw [if_pos ((zH7 _).2 h)]; rfl
 ·rw [if_neg (fun e => by rw [(zH7 _).1 e] at h; cases h), zSy o h]; simp
theorem zSz (o : OpP) : zCx o = 0 ∨ zCx o = 1 := by unfold zCx; split <;> (try split) <;> simp
theorem zOy {o : OpP} (h : zCx o = 0) : kindB o.k = true /\ fieldsO o = o := by
 rw [zL8] at h
 split at h
 ·rename_i hh
  rw [Bool.and_eq_true] at hh
  exact ⟨hh.1, kFf hh.2⟩
 ·cases h
def zAp (o : OpP) : OpP × Int :=
 if o.k = 3 then (if (jV o.q).2 = 0 then ({ o with k := 4, q := (jV o.q).1, o := o.w, w := o.o }, 0) else (zeroO, (jV o.q).2)) else
 if o.k = 4 then (if (zBg o.q).2 = 0 then ({ o with k := 3, q := (zBg o.q).1, o := o.w, w := o.o }, 0) else (zeroO, (zBg o.q).2)) else
 if o.k = 6 then ({ o with k := 6, o := o.w, w := o.o }, 0) else if o.k = 5 then ({ o with k := 5, q := o.t, t := o.q }, 0) else if o.k = 9 then ({ o with k := 9, f := o.g, g := o.f }, 0) else ({ o with k := zA0 o.k }, 0)
noncomputable def zGl (o : OpP) : OpP × Int := if zCx o = 0 then zAp o else (zeroO, 1)
end Go.Proofs.YtmkciabefepelaaGreat
