/- each: a closure that calls itself goes through a tree; the visit by its contract. each, called with a visit. Size: a visit that counts in a captured variable; the document's Size, that calls itself. -/
import Derived.Test.YtknkclbjocfhiaaDoorNOne
import Derived.Shelf.Abstract
namespace Go.Proofs.YtknkclbjocfhiaaDoor
open Go.RowKit

/-- What a visit may change of what is there: block g, and block O, which it may leave for a new one, O'. -/
structure Eff (g : Nat) (O O' : Option Nat) (w w' : World) : Prop where
  below : Below g w w'
  size : w.heap.size ≤ w'.heap.size
  cell : ∀ p : Addr, p.block < w.heap.size → p.block ≠ g → some p.block ≠ O → w'.cell? p = w.cell? p
  own : O' = O ∨ ∃ j, O' = some j ∧ w.heap.size ≤ j
set_option maxRecDepth 4000 in
theorem Eff.refl (g : Nat) (O : Option Nat) (w : World) : Eff g O O w w := ⟨Below.refl _ _, Nat.le_refl _, fun _ _ _ _ => rfl, .inl rfl⟩
set_option maxRecDepth 4000 in
theorem Eff.trans {g : Nat} {O O' O'' : Option Nat} {w w' w'' : World} (h : Eff g O O' w w') (h' : Eff g O' O'' w' w'') : Eff g O O'' w w'' :=
  ⟨h.below.trans h'.below, Nat.le_trans h.size h'.size, fun p hp hg hO => by
    have hs := h.size
    rw [h'.cell p (by omega) hg (by
      rcases h.own with e | ⟨j, e, hj⟩
      · rw [e]; exact hO
      · rw [e]; intro e2; injection e2 with e2; omega)]
    exact h.cell p hp hg hO, by
    have hs := h.size
    rcases h'.own with e | ⟨j, e, hj⟩
    · rw [e]; exact h.own
    · exact .inr ⟨j, e, by omega⟩⟩
set_option maxRecDepth 4000 in
theorem Eff.alloc {g : Nat} {O O' : Option Nat} {w w' : World} (h : Eff g O O' w w') (hg : g ≤ w'.heap.size) (o : Obj) : Eff g O O' w (w'.alloc o) :=
  ⟨h.below.alloc hg o, by have := h.size; simp; omega, fun p hp hg hO => by
    have hs := h.size
    rw [World.cell?_alloc_lt _ _ p (by omega)]; exact h.cell p hp hg hO, h.own⟩

/-- The two variables of 'each': the visit and the walk. -/
def Vars (g gv gw : Nat) (fv : FuncId) (w : World) : Prop :=
  w.cell? ⟨gv, 0, none⟩ = some (.func (.func fv) #[] #[.pointer (some ⟨g, 0, none⟩)]) ∧
  w.cell? ⟨gw, 0, none⟩ = some (.func (.func 60) #[] #[.pointer (some ⟨gv, 0, none⟩), .pointer (some ⟨gw, 0, none⟩)])

/-- What a visit leaves. -/
def Did {σ : Type} (g : Nat) (Q : σ → Option Nat → World → Prop) (O : Option Nat) (r : Bool × σ) (w : World) (e : Ending) (w' : World) : Prop :=
  e = .returned (.bool r.1) ∧ ∃ O', Q r.2 O' w' ∧ Eff g O O' w w'
/-- What a visit does; N: from where on its own block lies. -/
structure Visit {σ : Type} (fv : FuncId) (g N : Nat) (step : σ → NT → Bool × σ) (Q : σ → Option Nat → World → Prop) (pre : σ → NT → Prop) (preK : σ → List NT → Prop) : Prop where
  enters : ∀ args w, (callFunc fv args).run Tryd.prog w = .ok (.enter fv args) w
  valid : ∀ s O w, Q s O w → ∀ j, O = some j → N ≤ j ∧ j < w.heap.size
  later : ∀ s O w o, N ≤ w.heap.size → Q s O w → Q s O (w.alloc o)
  kids : ∀ s lf ps tx ks, pre s (.mk lf ps tx ks) → (step s (.mk lf ps tx ks)).1 = true → preK (step s (.mk lf ps tx ks)).2 ks
  next : ∀ s m r, preK s (m :: r) → pre s m ∧ ((walkT step s m).1 = true → preK (walkT step s m).2 r)
  does : ∀ d w v n s O, pre s n → Q s O w → N ≤ w.heap.size → NodeAt d w g v n → Calls Tryd.prog fv #[v, .pointer (some ⟨g, 0, none⟩)] w (Did g Q O (step s n) w)

set_option maxRecDepth 4000 in
theorem Vars.eff {g gv gw N : Nat} {fv : FuncId} {w w' : World} {O O' : Option Nat} (h : Vars g gv gw fv w) (hN : N ≤ w.heap.size) (hv : gv < N) (hw : gw < N) (hgv : gv ≠ g) (hgw : gw ≠ g) (hO : ∀ j, O = some j → N ≤ j ∧ j < w.heap.size) (ha : Eff g O O' w w') : Vars g gv gw fv w' :=
  ⟨(ha.cell ⟨gv, 0, none⟩ (Nat.lt_of_lt_of_le hv hN) hgv (by intro e; have h1 : N ≤ gv := (hO _ e.symm).1; omega)).trans h.1, (ha.cell ⟨gw, 0, none⟩ (Nat.lt_of_lt_of_le hw hN) hgw (by intro e; have h1 : N ≤ gw := (hO _ e.symm).1; omega)).trans h.2⟩

set_option maxRecDepth 4000 in
theorem did_ret {σ : Type} {g : Nat} {Q : σ → Option Nat → World → Prop} {r : Bool × σ} {b : Bool} {s : σ} {O O' : Option Nat} {w w' : World} (h : r = (b, s)) (hq : Q s O' w') (ha : Eff g O O' w w') : Did g Q O r w (.returned (.bool b)) w' := by
  subst h; exact ⟨rfl, O', hq, ha⟩

set_option maxRecDepth 4000 in
/-- A node in a variable of the call's own, behind a visit that leaves it. -/
theorem box4e {g : Nat} {O O' : Option Nat} {w w' : World} {a b c d : Value} {t : TypeId} (hg : g < w.heap.size) (hO : ∀ j, O = some j → j < w.heap.size) (hb : Eff g O O' (w.alloc (.cells #[a, b, c, d] t)) w') :
    w'.cell? ⟨w.heap.size, 0, none⟩ = some a ∧ w'.cell? ⟨w.heap.size, 1, none⟩ = some b ∧ w'.cell? ⟨w.heap.size, 2, none⟩ = some c ∧ w'.cell? ⟨w.heap.size, 3, none⟩ = some d := by
  refine ⟨?_, ?_, ?_, ?_⟩ <;> (rw [hb.cell _ (by simp) (by simp; omega) (by intro e; have := hO _ e.symm; simp at this), World.cell?_alloc_at _ _ _ _ rfl]; rfl)

set_option maxRecDepth 4000 in
set_option maxHeartbeats 4000000 in
theorem walk_any {σ : Type} {fv : FuncId} {g gv gw N : Nat} {step : σ → NT → Bool × σ} {Q : σ → Option Nat → World → Prop} {pre : σ → NT → Prop} {preK : σ → List NT → Prop} (V : Visit fv g N step Q pre preK) (hg : g < N) (hv : gv < N) (hw : gw < N) (hgv : gv ≠ g) (hgw : gw ≠ g) :
    ∀ (d : Nat) (w : World) (v : Value) (n : NT) (s : σ) (O : Option Nat), pre s n → Q s O w → N ≤ w.heap.size → Vars g gv gw fv w → NodeAt d w g v n →
      Calls Tryd.prog 60 #[v, .pointer (some ⟨gv, 0, none⟩), .pointer (some ⟨gw, 0, none⟩)] w (Did g Q O (walkT step s n) w) := by
  intro d
  induction d with
  | zero => intro w v n s O _ _ _ _ h; exact h.elim
  | succ d ih =>
    intro w v n s O hpre hQ hN hV hn
    have hn0 := hn
    obtain ⟨d', lf, ps, tx, ks, PA, pc, TA, tc, KA, kc, hd', rfl, rfl, hp, ht, hf, hks⟩ := hn.open_
    obtain rfl : d = d' := by omega
    have hO := V.valid s O w hQ
    have hN' := Nat.lt_of_lt_of_le hg hN
    obtain ⟨wb, hwb⟩ : ∃ wb, wb = w.alloc (.cells #[.bool lf, .slice PA ps.length pc, .slice TA tx.length tc, .slice KA ks.length kc] 26) := ⟨_, rfl⟩
    have hab : Eff g O O w wb := hwb ▸ (Eff.refl g O w).alloc (by omega) _
    have hsb : wb.heap.size = w.heap.size + 1 := by rw [hwb]; simp
    have HV := hd (V.does (d + 1) wb _ _ s O hpre (hwb ▸ V.later s O w _ hN hQ) (by omega) (hn0.below hab.below))
    have hvb := hV.eff hN hv hw hgv hgw hO hab
    have hE := V.enters
    obtain ⟨r, hr⟩ : ∃ r, r = step s (.mk lf ps tx ks) := ⟨_, rfl⟩
    rw [← hr] at HV
    obtain ⟨rb, s1⟩ := r
    have HR := hd hr
    have HPR := hd hpre
    have HKS := hd hks
    have HO := hd hO
    have HAB := hd hab
    have HVB := hd hvb
    have hf3 := hf.2.2.2.1
    obtain ⟨v1, v2⟩ := hvb
    obtain ⟨w1, w2⟩ := hV
    subst hwb
    clear hr hQ hks hn hn0 hp ht hd' hO hab hf hpre
    cases rb
    · have HF := hd (show walkT step s (.mk lf ps tx ks) = (false, s1) by rw [walkT, if_neg (by rw [← HR.out]; simp), ← HR.out])
      clear HKS ih
      go_enter Tryd.func60, Tryd.ntmps60
      go_wp2_with (first | (refine HV.out.mono ?_; rintro e w' ⟨rfl, O', hq, ha⟩))
      go_ret
      exact did_ret HF.out hq (HAB.out.trans ha)
    · have HF := hd (show walkT step s (.mk lf ps tx ks) = walkK step s1 (ks.drop 0) by rw [walkT, if_pos (by rw [← HR.out]), ← HR.out]; rfl)
      have HPK := hd (show preK s1 (ks.drop 0) from (by have := V.kids s lf ps tx ks HPR.out (by rw [← HR.out]); rw [← HR.out] at this; exact this))
      clear HR
      go_enter Tryd.func60, Tryd.ntmps60
      go_wp2_with (first | (refine HV.out.mono ?_; rintro e w' ⟨rfl, O1, hq1, ha1⟩; obtain ⟨x0, x1, x2, x3⟩ := box4e hN' (fun j hj => (HO.out j hj).2) ha1))
      have HQ1 := hd hq1
      have HA1 := hd (HAB.out.trans ha1)
      clear x0 x1 x2 x3 hq1 ha1 HV v1 v2 HAB
      go_loopw [14] (fun i wr => ∃ (k : Nat) (s2 : σ) (O2 : Option Nat), k ≤ ks.length ∧ i = .int .i64 k ∧ Hid (Q s2 O2 wr) ∧ Hid (Eff g O O2 w wr) ∧ Hid (walkT step s (.mk lf ps tx ks) = walkK step s2 (ks.drop k)) ∧ Hid (preK s2 (ks.drop k))) (fun i _ => ks.length - (intOf i).toNat)
      case atStart => exact ⟨0, s1, O1, Nat.zero_le _, rfl, HQ1, HA1, HF, HPK⟩
      case round =>
        obtain ⟨k, s2, O2, hk, rfl, HQ2, HA2, HF2, HP2⟩ := hrel
        clear HQ1 HA1 HF HPK
        by_cases hlt : k < ks.length
        · obtain ⟨m, b, o, lf', PA', np', pc', TA', nt', tc', KA', nk', kc', hm, rfl, hbg, hnm, c0, c1, c2, c3⟩ := ((HKS.out.below HA2.out.below)).at_ hlt
          have HM := hd hm
          have hpm := V.next s2 m (ks.drop (k + 1)) (by rw [← drop_one hm]; exact HP2.out)
          have HPM := hd hpm.2
          have hsz := HA2.out.size
          obtain ⟨u1, u2⟩ := (show Vars g gv gw fv w from ⟨w1, w2⟩).eff hN hv hw hgv hgw HO.out HA2.out
          obtain ⟨wk, hwk⟩ : ∃ wk, wk = wr.alloc (.cells #[.bool lf', .slice PA' np' pc', .slice TA' nt' tc', .slice KA' nk' kc'] 26) := ⟨_, rfl⟩
          have hak : Eff g O2 O2 wr wk := hwk ▸ (Eff.refl g O2 wr).alloc (by omega) _
          have hsk : wk.heap.size = wr.heap.size + 1 := by rw [hwk]; simp
          have hvk := (show Vars g gv gw fv wr from ⟨u1, u2⟩).eff (by omega) hv hw hgv hgw (V.valid s2 O2 wr HQ2.out) hak
          have HC := hd (ih wk _ m s2 O2 hpm.1 (hwk ▸ V.later s2 O2 wr _ (by omega) HQ2.out) (by omega) hvk (hnm.below hak.below))
          have HAK := hd (HA2.out.trans hak)
          obtain ⟨r, hr⟩ : ∃ r, r = walkT step s2 m := ⟨_, rfl⟩
          rw [← hr] at HC
          obtain ⟨rb, s3⟩ := r
          have HR := hd hr
          obtain ⟨y1, y2⟩ := hvk
          subst hwk
          clear hm hnm hr hak w1 w2 HKS HVB hpm HP2
          cases rb
          · have HF3 := hd (show walkT step s (.mk lf ps tx ks) = (false, s3) by rw [HF2.out, walkK_stop HM.out (by rw [← HR.out]), ← HR.out])
            clear HF2 HM HR
            go_wp2_with (first | (refine HC.out.mono ?_; rintro e w' ⟨rfl, O3, hq3, ha3⟩))
            go_ret
            exact did_ret HF3.out hq3 (HAK.out.trans ha3)
          · have HF3 := hd (show walkT step s (.mk lf ps tx ks) = walkK step s3 (ks.drop (k + 1)) by rw [HF2.out, walkK_step HM.out (by rw [← HR.out]), ← HR.out])
            have HP3 := hd (show preK s3 (ks.drop (k + 1)) from (by have := HPM.out (by rw [← HR.out]); rw [← HR.out] at this; exact this))
            clear HF2 HM HR HPM
            go_wp2_with (first | (refine HC.out.mono ?_; rintro e w' ⟨rfl, O3, hq3, ha3⟩))
            go_roundw
            case rel => exact ⟨k + 1, s3, O3, by omega, by go_num, hd hq3, hd (HAK.out.trans ha3), HF3, HP3⟩
            case measure => simp [intOf]; omega
        · have HF3 := hd (show walkT step s (.mk lf ps tx ks) = (true, s2) by rw [HF2.out, walkK_end (by omega)])
          clear HF2
          go_wp2
          go_ret
          exact did_ret HF3.out HQ2.out HA2.out

end Go.Proofs.YtknkclbjocfhiaaDoor

namespace Go.Proofs.YtknkclbjocfhiaaDoor
open Go.RowKit

/-- What a call of 'each' leaves: the visit's state behind the walk. -/
def Gone {σ : Type} (g : Nat) (Q : σ → Option Nat → World → Prop) (s : σ) (w : World) (e : Ending) (w' : World) : Prop :=
  e = .returned (.tuple #[]) ∧ ∃ O', Q s O' w' ∧ Below g w w'

set_option maxRecDepth 4000 in
set_option maxHeartbeats 4000000 in
theorem each_any {σ : Type} {fv : FuncId} {g : Nat} {step : σ → NT → Bool × σ} {Q : Nat → σ → Option Nat → World → Prop} {pre : σ → NT → Prop} {preK : σ → List NT → Prop} {d : Nat} {w : World} {v : Value} {n : NT} {s : σ} (V : ∀ N, w.heap.size ≤ N → Visit fv g N step (Q N) pre preK) (hg : g < w.heap.size) (hpre : pre s n) (hQ : ∀ N wa, w.heap.size ≤ N → Below w.heap.size w wa → Q N s none wa) (hn : NodeAt d w g v n) :
    Calls Tryd.prog 36 #[v, .func (.func fv) #[] #[.pointer (some ⟨g, 0, none⟩)]] w (Gone g (Q (w.heap.size + 3)) (walkT step s n).2 w) := by
  obtain ⟨N, hN⟩ : ∃ N, N = w.heap.size + 3 := ⟨_, rfl⟩
  have V0 := V N (by omega)
  have hn0 := hn
  obtain ⟨d', lf, ps, tx, ks, PA, pc, TA, tc, KA, kc, hd', rfl, rfl, hp, ht, hf, hks⟩ := hn.open_
  obtain ⟨f0, hf0⟩ : ∃ f : Value, f = .func (.func 60) #[] #[.pointer (some ⟨w.heap.size + 1, 0, none⟩), .pointer (some ⟨w.heap.size + 2, 0, none⟩)] := ⟨_, rfl⟩
  obtain ⟨wa, hwa⟩ : ∃ wa, wa = ((w.alloc (.cells #[.bool lf, .slice PA ps.length pc, .slice TA tx.length tc, .slice KA ks.length kc] 26)).alloc (.cells #[.func (.func fv) #[] #[.pointer (some ⟨g, 0, none⟩)]] 32)).alloc (.cells #[f0] 32) := ⟨_, rfl⟩
  have hqa : Q N s none wa := hQ N wa (by omega) (hwa ▸ ((((Below.refl _ w).alloc (Nat.le_refl _) _).alloc (by simp) _).alloc (by simp; omega) _))
  have hba : Below g w wa := hwa ▸ ((((Below.refl g w).alloc (by omega) _).alloc (by simp; omega) _).alloc (by simp; omega) _)
  have hsa : wa.heap.size = N := by rw [hwa, hN]; simp
  have hva : Vars g (w.heap.size + 1) (w.heap.size + 2) fv wa := by
    constructor
    · rw [hwa, World.cell?_alloc_lt _ _ _ (by simp), World.cell?_alloc_at _ _ _ _ (by simp)]; rfl
    · rw [hwa, World.cell?_alloc_at _ _ _ _ (by simp), hf0]; rfl
  have HC := hd (walk_any V0 (by omega) (by omega) (by omega) (by omega) (by omega) d wa _ _ s none hpre hqa (by omega) hva (hn0.below hba))
  obtain ⟨v1, v2⟩ := hva
  subst hwa hf0
  have HNN := hd hN
  clear hqa hn0 hn hp ht hks hf V V0 hQ hd' hpre hN
  go_enter Tryd.func36, Tryd.ntmps36
  go_wp2_with (first | (refine HC.out.mono ?_; rintro e w' ⟨rfl, O', hq, ha⟩))
  go_wp2
  go_end0
  exact ⟨rfl, O', HNN.out ▸ hq, hba.trans ha.below⟩

end Go.Proofs.YtknkclbjocfhiaaDoor

namespace Go.Proofs.YtknkclbjocfhiaaDoor
open Go.RowKit

/-- Block g is a variable that holds u. -/
def One (t : TypeId) (g : Nat) (u : Value) (w : World) : Prop := w.heap[g]? = some (.cells #[u] t (0, 0))
set_option maxRecDepth 4000 in
theorem One.alloc {t : TypeId} {g : Nat} {u : Value} {w : World} (h : One t g u w) (o : Obj) : One t g u (w.alloc o) := (Below.heap_alloc w o g (lt_of_block h)).trans h
set_option maxRecDepth 4000 in
theorem One.new (t : TypeId) (u : Value) (w : World) : One t w.heap.size u (w.alloc (.cells #[u] t (0, 0))) := by
  show (w.heap.push _)[w.heap.size]? = _
  simp
set_option maxRecDepth 4000 in
theorem One.set {t : TypeId} {g : Nat} {u : Value} {w : World} (h : One t g u w) (x : Value) : One t g x (w.setCell ⟨g, 0, none⟩ x) := one_setCell h
set_option maxRecDepth 4000 in
theorem Eff.setCell {g : Nat} {O O' : Option Nat} {w w' : World} (h : Eff g O O' w w') (x : Value) : Eff g O O' w (w'.setCell ⟨g, 0, none⟩ x) :=
  ⟨h.below.setCell (Nat.le_refl _) x, by have := h.size; simp; omega, fun p hp hg hO => by
    rw [World.cell?_setCell_other _ _ _ _ (by intro e; exact hg (by rw [← e]))]; exact h.cell p hp hg hO, h.own⟩

set_option maxRecDepth 4000 in
theorem wrap_in (a : Int) : -9223372036854775808 ≤ wrap64 a ∧ wrap64 a ≤ 9223372036854775807 := by unfold wrap64; omega
/-- The counter's state. -/
def QS (g : Nat) (z : Int) (O : Option Nat) (w : World) : Prop := O = none ∧ (-9223372036854775808 ≤ z ∧ z ≤ 9223372036854775807) ∧ One 3 g (.int .i64 z) w

set_option maxRecDepth 4000 in
set_option maxHeartbeats 1000000 in
theorem countSelf_any (g : Nat) (z : Int) (d : Nat) (w : World) (v : Value) (n : NT) (O : Option Nat) (hQ0 : QS g z O w) (hn : NodeAt d w g v n) :
    Calls Tryd.prog 59 #[v, .pointer (some ⟨g, 0, none⟩)] w (Did g (QS g) O (stepS z n) w) := by
  obtain ⟨rfl, ⟨hz1, hz2⟩, hQ⟩ := hQ0
  obtain ⟨d', lf, ps, tx, ks, PA, pc, TA, tc, KA, kc, hd', rfl, rfl, hp, ht, hf, hks⟩ := hn.open_
  have hlt := lt_of_block hQ
  have h1 := cell_of_one (One.alloc hQ (.cells #[.bool lf, .slice PA ps.length pc, .slice TA tx.length tc, .slice KA ks.length kc] 26))
  have h2 := free_of_one (One.alloc hQ (.cells #[.bool lf, .slice PA ps.length pc, .slice TA tx.length tc, .slice KA ks.length kc] 26))
  have HQ := hd hQ
  have HE := hd (Eff.refl g none w)
  have hl := hf.2.2.1
  clear hks hp ht hf hn hQ hd'
  go_enter Tryd.func59, Tryd.ntmps59
  go_wp2
  go_ret
  exact ⟨rfl, none, ⟨rfl, wrap_in _, (HQ.out.set _).alloc _⟩, (HE.out.setCell _).alloc (by simp; omega) _⟩

set_option maxRecDepth 4000 in
theorem countVisit (g N : Nat) : Visit 59 g N stepS (QS g) (fun _ _ => True) (fun _ _ => True) :=
  ⟨enters_of Tryd.func59 (by kernel_rfl) rfl, fun _ _ _ h j hj => (by rw [h.1] at hj; cases hj), fun _ _ _ o _ h => ⟨h.1, h.2.1, h.2.2.alloc o⟩, fun _ _ _ _ _ _ _ => trivial, fun _ _ _ _ => ⟨trivial, fun _ => trivial⟩, fun d w v n s O _ hQ _ hn => countSelf_any g s d w v n O hQ hn⟩

set_option maxRecDepth 4000 in
set_option maxHeartbeats 1000000 in
theorem size_any (d : Nat) (w : World) (v : Value) (n : NT) (hn : NodeAt d w w.heap.size v n) : Calls Tryd.prog 35 #[v] w (Still (.int .i64 (wrap64 (sizeT n))) w) := by
  have hn0 := hn
  obtain ⟨d', lf, ps, tx, ks, PA, pc, TA, tc, KA, kc, hd', rfl, rfl, hp, ht, hf, hks⟩ := hn.open_
  obtain ⟨wb, hwb⟩ : ∃ wb, wb = w.alloc (.cells #[.bool lf, .slice PA ps.length pc, .slice TA tx.length tc, .slice KA ks.length kc] 26) := ⟨_, rfl⟩
  have hsb : wb.heap.size = w.heap.size + 1 := by rw [hwb]; simp
  have hb1 : Below w.heap.size w wb := hwb ▸ (Below.refl _ _).alloc (Nat.le_refl _) _
  obtain ⟨wc, hwc⟩ : ∃ wc, wc = wb.alloc (.cells #[.int .i64 0] 3) := ⟨_, rfl⟩
  have hb2 : Below w.heap.size w wc := hwc ▸ hb1.alloc (by omega) _
  have hsc : wc.heap.size = w.heap.size + 1 + 1 := by rw [hwc]; simp; omega
  have hQ : QS (w.heap.size + 1) 0 none wc := ⟨rfl, by omega, by rw [hwc, ← hsb]; exact One.new _ _ _⟩
  have HC := hd (each_any (Q := fun _ => QS (w.heap.size + 1)) (fun N _ => countVisit (w.heap.size + 1) N) (by omega) trivial (fun _ _ _ hb => ⟨hQ.1, hQ.2.1, (hb.block _ (lt_of_block hQ.2.2)).trans hQ.2.2⟩) ((hn0.below hb2).more (by omega)))
  have e := walk_size (.mk lf ps tx ks) 0
  rw [wrap_id 0 (by omega) (by omega), Int.zero_add] at e
  rw [e] at HC
  have HB := hd hb2
  clear hn hn0 hp ht hf hks hd' e hQ hb1 hb2
  subst hwc hwb
  go_enter Tryd.func35, Tryd.ntmps35
  go_wp2_with (first | (refine HC.out.mono ?_; rintro e w' ⟨rfl, O', ⟨_, _, hq⟩, ha⟩; have x0 := cell_of_one hq))
  go_ret
  exact ⟨rfl, HB.out.trans (ha.mono (by omega))⟩

set_option maxRecDepth 4000 in
theorem size_start (ks : List NT) {n : Nat} (h : n ≤ 9223372036854775806) : (1 + (n : Int)) = wrap64 (1 + n + sizeK (ks.take 0)) := by
  have e : sizeK (ks.take 0) = 0 := by simp [sizeK]
  rw [e, wrap_id] <;> omega

set_option maxRecDepth 4000 in
set_option maxHeartbeats 1000000 in
theorem rsize_any : ∀ (d : Nat) (w : World) (v : Value) (n : NT), NodeAt d w w.heap.size v n → Calls Tryd.prog 48 #[v] w (Still (.int .i64 (wrap64 (sizeT n))) w) := by
  intro d
  induction d with
  | zero => intro w v n h; exact h.elim
  | succ d ih =>
    intro w v n hn
    obtain ⟨d', lf, ps, tx, ks, PA, pc, TA, tc, KA, kc, hd', rfl, rfl, hp, ht, hf, hks⟩ := hn.open_
    obtain rfl : d = d' := by omega
    have HB := hd (show Below w.heap.size w (w.alloc (.cells #[.bool lf, .slice PA ps.length pc, .slice TA tx.length tc, .slice KA ks.length kc] 26)) from (Below.refl _ _).alloc (Nat.le_refl _) _)
    have HKS := hd hks
    have hl := hf.2.2.1
    have hl3 := hf.2.2.2.1
    clear hn hp ht hf hks hd'
    go_enter Tryd.func48, Tryd.ntmps48
    go_wp2
    go_loopw [3, 13] (fun z i wr => ∃ (k : Nat) (y : Int), k ≤ ks.length ∧ z = .int .i64 y ∧ i = .int .i64 k ∧ Below w.heap.size w wr ∧ Hid (y = wrap64 (1 + tx.length + sizeK (ks.take k)))) (fun _ i _ => ks.length - (intOf i).toNat)
    case atStart => exact ⟨0, _, Nat.zero_le _, rfl, rfl, HB.out, hd (size_start ks (by omega))⟩
    case round =>
      obtain ⟨k, y, hk, rfl, rfl, hb, HY⟩ := hrel
      by_cases hlt : k < ks.length
      · obtain ⟨m, b, o, lf', PA', np', pc', TA', nt', tc', KA', nk', kc', hm, rfl, hbg, hnm, c0, c1, c2, c3⟩ := (HKS.out.below hb).at_ hlt
        have hsz := hb.size
        obtain ⟨wk, hwk⟩ : ∃ wk, wk = wr.alloc (.cells #[.bool lf', .slice PA' np' pc', .slice TA' nt' tc', .slice KA' nk' kc'] 26) := ⟨_, rfl⟩
        have hbk : Below w.heap.size w wk := hwk ▸ hb.alloc (by omega) _
        have hbk2 : Below wr.heap.size wr wk := hwk ▸ (Below.refl _ _).alloc (Nat.le_refl _) _
        have HC := hd (ih wk _ m ((((hnm.more hsz).below hbk2)).more hbk2.size))
        have HK := hd hbk
        have HZ := hd (sizeK_take hm)
        have hyb := wrap_in (1 + tx.length + sizeK (ks.take k))
        rw [← HY.out] at hyb
        obtain ⟨hy1, hy2⟩ := hyb
        obtain ⟨x, hx⟩ : ∃ x, x = wrap64 (sizeT m) := ⟨_, rfl⟩
        have hxb := wrap_in (sizeT m)
        rw [← hx] at HC hxb
        obtain ⟨hx1, hx2⟩ := hxb
        have HX := hd hx
        subst hwk
        clear hm hnm hbk hbk2 hx HKS
        go_wp2_with (first | (refine HC.out.mono ?_; rintro e w' ⟨rfl, hb'⟩))
        go_roundw
        case rel => exact ⟨k + 1, _, by omega, rfl, by go_num, HK.out.trans (hb'.mono HK.out.size), by show wrap64 _ = _; rw [HZ.out, HY.out, HX.out, wrap_add, wrap_add']; congr 1; omega⟩
        case measure => simp [intOf]; omega
      · have HF := hd (show y = wrap64 (sizeT (.mk lf ps tx ks)) by rw [HY.out, List.take_of_length_le (by omega)]; simp only [sizeT]; congr 1)
        clear HY
        go_wp2
        go_ret
        exact ⟨ret_int HF.out, hb⟩

end Go.Proofs.YtknkclbjocfhiaaDoor
