/- A region that draws its order and holds calls that make memory, but leave all that was there: one walk in the order of the text, in whatever later world. Same, by a closure that calls itself, and the document's. Same: the closure that calls itself, and the call. -/
import Derived.Test.YtdjajpookmmafaaNTops
import Derived.BigQuiet
namespace Go.Proofs.Ytdjajpookmmafaa
open Go.RowKit

/-- The worlds that keep what lies below N as it is in w. -/
def Later (N : Nat) (w : World) : Type := { w' : World // Below N w w' }
instance (N : Nat) (w : World) : Nonempty (Later N w) := ⟨⟨w, Below.refl N w⟩⟩
set_option maxRecDepth 4000 in
theorem wp_region_later (N : Nat) {id : Nat} {Q : Exit → Act → World → Prop} {a : Act} {w : World} {l : List Oper} (hm : Try.prog.follows .mixedOrders = true) (hB : Region.lexB .any l.toArray = true)
    (h : wpQuiet Try.prog l.toArray (fun w' => ∃ u : Later N w, w' = u.1) (fun a' => ∀ w', (∃ u : Later N w, w' = u.1) → Q .normal a' w') l a) : (Code.region id l.toArray true).wp Try.prog Q a w :=
  wp_region_quiet (C := fun w' => ∃ u : Later N w, w' = u.1) hm hB ⟨⟨_, (Below.refl N w).drew⟩, rfl⟩ (by simpa using h)
set_option maxRecDepth 4000 in
theorem cell_in {w : World} {a : Addr} {v : Value} (h : w.cell? a = some v) : a.block < w.heap.size := by
  unfold World.cell? at h
  cases hb : w.heap[a.block]? with
  | none => rw [hb] at h; cases h
  | some o => exact (Array.getElem?_eq_some_iff.1 hb).1
set_option maxRecDepth 4000 in
theorem later_cell {w : World} {p : Addr} {v : Value} (h : w.cell? p = some v) : ∀ u : Later w.heap.size w, u.1.cell? p = some v := fun u => (u.2.cell (cell_in h)).trans h
set_option maxRecDepth 4000 in
theorem later_in {f : FuncId} {args : Array Value} {v : Value} {N : Nat} {w : World} {u : Later N w} (hN : N ≤ w.heap.size) (h : Calls Try.prog f args u.1 (Still v u.1)) :
    Calls Try.prog f args u.1 fun e w'' => e = .returned v ∧ ∃ u' : Later N w, w'' = u'.1 :=
  h.mono fun _ w'' ⟨he, hb⟩ => ⟨he, ⟨w'', u.2.trans (hb.mono (Nat.le_trans hN u.2.size))⟩, rfl⟩

end Go.Proofs.Ytdjajpookmmafaa

namespace Go.Proofs.Ytdjajpookmmafaa
open Go.RowKit

/-- Are two nodes the same, whatever their Kids are? -/
def sameO (lf : Bool) (ps : List Pr) (tx : List Int) (nk : Nat) (lf' : Bool) (ps' : List Pr) (tx' : List Int) (nk' : Nat) : Bool := decide (lf = lf' ∧ nk = nk' ∧ ps = ps' ∧ tx = tx')
set_option maxRecDepth 4000 in
theorem sameO_no {lf : Bool} {ps : List Pr} {tx : List Int} {nk : Nat} {lf' : Bool} {ps' : List Pr} {tx' : List Int} {nk' : Nat} (h : ¬ (lf = lf' ∧ nk = nk' ∧ ps = ps' ∧ tx = tx')) : sameO lf ps tx nk lf' ps' tx' nk' = false := decide_eq_false h
set_option maxRecDepth 4000 in
theorem sameO_yes {lf : Bool} {ps : List Pr} {tx : List Int} {nk : Nat} : sameO lf ps tx nk lf ps tx nk = true := decide_eq_true ⟨rfl, rfl, rfl, rfl⟩

set_option maxRecDepth 4000 in
/-- Two nodes in variables of the call's own, behind a call that leaves them. -/
theorem box8 {w w' : World} {a b c d a' b' c' d' : Value} {t t' : TypeId} (hb : Below ((w.alloc (.cells #[a, b, c, d] t)).alloc (.cells #[a', b', c', d'] t')).heap.size ((w.alloc (.cells #[a, b, c, d] t)).alloc (.cells #[a', b', c', d'] t')) w') :
    (w'.cell? ⟨w.heap.size, 0, none⟩ = some a ∧ w'.cell? ⟨w.heap.size, 1, none⟩ = some b ∧ w'.cell? ⟨w.heap.size, 2, none⟩ = some c ∧ w'.cell? ⟨w.heap.size, 3, none⟩ = some d) ∧
    (w'.cell? ⟨w.heap.size + 1, 0, none⟩ = some a' ∧ w'.cell? ⟨w.heap.size + 1, 1, none⟩ = some b' ∧ w'.cell? ⟨w.heap.size + 1, 2, none⟩ = some c' ∧ w'.cell? ⟨w.heap.size + 1, 3, none⟩ = some d') ∧ w.heap.size + 1 < w'.heap.size := by
  refine ⟨⟨?_, ?_, ?_, ?_⟩, ⟨?_, ?_, ?_, ?_⟩, by have := hb.size; simp at this; omega⟩
  all_goals first
    | (rw [hb.cell (by simp; omega), World.cell?_alloc_lt _ _ _ (by simp), World.cell?_alloc_at _ _ _ _ rfl]; rfl)
    | (rw [hb.cell (by simp), World.cell?_alloc_at _ _ _ _ (by simp)]; rfl)

set_option maxRecDepth 4000 in
set_option maxHeartbeats 4000000 in
theorem sameOne_any (lf : Bool) (ps : List Pr) (tx : List Int) (lf' : Bool) (ps' : List Pr) (tx' : List Int) (PA TA KA PA' TA' KA' : Option Addr) (pc tc nk kc pc' tc' nk' kc' : Nat) (w : World) (hf : FitN ps tx.length nk pc tc kc) (hf' : FitN ps' tx'.length nk' pc' tc' kc') (hp : PL w w.heap.size PA ps) (ht : VL w w.heap.size TA (rv tx)) (hp' : PL w w.heap.size PA' ps') (ht' : VL w w.heap.size TA' (rv tx')) :
    Calls Try.prog 66 #[.agg #[.bool lf, .slice PA ps.length pc, .slice TA tx.length tc, .slice KA nk kc], .agg #[.bool lf', .slice PA' ps'.length pc', .slice TA' tx'.length tc', .slice KA' nk' kc']] w (Still (.bool (sameO lf ps tx nk lf' ps' tx' nk')) w) := by
  have hb1 : Below w.heap.size w ((w.alloc (.cells #[.bool lf, .slice PA ps.length pc, .slice TA tx.length tc, .slice KA nk kc] 27)).alloc (.cells #[.bool lf', .slice PA' ps'.length pc', .slice TA' tx'.length tc', .slice KA' nk' kc'] 27)) := ((Below.refl _ _).alloc (Nat.le_refl _) _).alloc (by simp) _
  have HB := hd hb1
  rcases Classical.em (lf = lf') with h1 | h1
  · subst h1
    rcases Classical.em (nk = nk') with h2 | h2
    · subst h2
      have HC := hd (psame_any PA PA' ps ps' pc pc' _ (by have := hf.2.1; omega) (by have := hf'.2.1; omega) ((hp.below hb1).more hb1.size) ((hp'.below hb1).more hb1.size))
      rcases Classical.em (ps = ps') with h3 | h3
      · subst h3
        rw [decide_eq_true rfl] at HC
        have HD := fun (w' : World) (hb : Below w.heap.size w w') => hd (same_any TA TA' tx tx' tx.length tx'.length tc tc' (sameO lf ps tx nk lf ps tx' nk) (by unfold sameL sameO; simp) w' rfl rfl (by have := hf.2.2.1; omega) (by have := hf'.2.2.1; omega) ((ht.below hb).more hb.size) ((ht'.below hb).more hb.size))
        clear hf hf' hp ht hp' ht' hb1
        cases lf <;>
        · go_enter Try.func66, Try.ntmps66
          go_wp2_with (first
            | (go_at_call 69; refine HC.out.mono ?_; rintro e w' ⟨rfl, hb⟩; obtain ⟨⟨x0, x1, x2, x3⟩, ⟨y0, y1, y2, y3⟩, hlt⟩ := box8 hb)
            | (go_at_call 70; refine (HD _ (HB.out.trans (hb.mono HB.out.size))).out.mono ?_; rintro e w'' ⟨rfl, kd, rfl⟩))
          go_ret
          exact ⟨rfl, below_drewN (HB.out.trans (hb.mono HB.out.size)) _⟩
      · rw [decide_eq_false h3] at HC
        have HF := hd (sameO_no (lf := lf) (ps := ps) (tx := tx) (nk := nk) (lf' := lf) (ps' := ps') (tx' := tx') (nk' := nk) (fun h => h3 h.2.2.1))
        clear hf hf' hp ht hp' ht' hb1 h3
        cases lf <;>
        · go_enter Try.func66, Try.ntmps66
          go_wp2_with (first
            | (go_at_call 69; refine HC.out.mono ?_; rintro e w' ⟨rfl, hb⟩; obtain ⟨⟨x0, x1, x2, x3⟩, ⟨y0, y1, y2, y3⟩, hlt⟩ := box8 hb))
          go_ret
          exact ⟨ret_bool HF.out.symm, HB.out.trans (hb.mono HB.out.size)⟩
    · have HF := hd (sameO_no (lf := lf) (ps := ps) (tx := tx) (nk := nk) (lf' := lf) (ps' := ps') (tx' := tx') (nk' := nk') (fun h => h2 h.2.1))
      have z1 : ((nk : Int) == (nk' : Int)) = false := by simp; omega
      have z2 : ((nk : Int) != (nk' : Int)) = true := by simp; omega
      clear hf hf' hp ht hp' ht' hb1 h2
      cases lf <;>
      · go_enter Try.func66, Try.ntmps66
        go_wp2
        go_ret
        exact ⟨ret_bool HF.out.symm, HB.out⟩
  · have HF := hd (sameO_no (lf := lf) (ps := ps) (tx := tx) (nk := nk) (lf' := lf') (ps' := ps') (tx' := tx') (nk' := nk') (fun h => h1 h.1))
    clear hf hf' hp ht hp' ht' hb1
    cases lf <;> cases lf' <;> first
    | exact absurd rfl h1
    | (go_enter Try.func66, Try.ntmps66
       go_wp2
       go_ret
       exact ⟨ret_bool HF.out.symm, HB.out⟩)

set_option maxRecDepth 4000 in
/-- The Kids from k on are the same. -/
theorem eqT_one {lf : Bool} {ps : List Pr} {tx : List Int} {ks : List NT} {lf' : Bool} {ps' : List Pr} {tx' : List Int} {ks' : List NT} (h : sameO lf ps tx ks.length lf' ps' tx' ks'.length = false) : eqT (.mk lf ps tx ks) (.mk lf' ps' tx' ks') = false := by
  apply eqT_no
  intro e
  injection e with e1 e2 e3 e4
  subst e1 e2 e3 e4
  rw [sameO_yes] at h
  cases h
set_option maxRecDepth 4000 in
theorem eqT_kid {lf : Bool} {ps : List Pr} {tx : List Int} {ks : List NT} {lf' : Bool} {ps' : List Pr} {tx' : List Int} {ks' : List NT} {k : Nat} {m m' : NT} (h : ks[k]? = some m) (h' : ks'[k]? = some m') (hn : eqT m m' = false) : eqT (.mk lf ps tx ks) (.mk lf' ps' tx' ks') = false := by
  apply eqT_no
  intro e
  injection e with e1 e2 e3 e4
  subst e4
  rw [h] at h'
  injection h' with h'
  subst h'
  rw [eqT_self] at hn
  cases hn
set_option maxRecDepth 4000 in
theorem eqT_true {a b : NT} (h : eqT a b = true) : a = b := by
  rcases Classical.em (a = b) with h1 | h1
  · exact h1
  · rw [eqT_no h1] at h; cases h
set_option maxRecDepth 4000 in
theorem eqT_all {lf : Bool} {ps : List Pr} {tx : List Int} {ks : List NT} {lf' : Bool} {ps' : List Pr} {tx' : List Int} {ks' : List NT} (h : sameO lf ps tx ks.length lf' ps' tx' ks'.length = true) (ha : ∀ j, j < ks.length → ks[j]? = ks'[j]?) : eqT (.mk lf ps tx ks) (.mk lf' ps' tx' ks') = true := by
  have h1 := of_decide_eq_true h
  obtain ⟨rfl, hl, rfl, rfl⟩ := h1
  apply eqT_yes
  congr 1
  apply List.ext_getElem?
  intro i
  by_cases hi : i < ks.length
  · exact ha i hi
  · rw [List.getElem?_eq_none (by omega), List.getElem?_eq_none (by omega)]

end Go.Proofs.Ytdjajpookmmafaa

namespace Go.Proofs.Ytdjajpookmmafaa
open Go.RowKit

theorem below_mono2 {w w' : World} {o o' : Obj} {B : Nat} (h : Below B w w') (hB : B ≤ w'.heap.size) : Below B w ((w'.alloc o).alloc o') := (h.alloc hB o).alloc (by simp; omega) o'

set_option maxRecDepth 4000 in
set_option maxHeartbeats 8000000 in
theorem alike_any (g : Nat) : ∀ (d d' : Nat) (w : World) (v v' : Value) (n n' : NT), w.cell? ⟨g, 0, none⟩ = some (.func (.func 65) #[] #[.pointer (some ⟨g, 0, none⟩)]) → NodeAt d w w.heap.size v n → NodeAt d' w w.heap.size v' n' →
      Calls Try.prog 65 #[v, v', .pointer (some ⟨g, 0, none⟩)] w (Still (.bool (eqT n n')) w) := by
  intro d
  induction d with
  | zero => intro d' w v v' n n' _ h; exact h.elim
  | succ d ih =>
    intro e w v v' n n' hg hn hn'
    obtain ⟨d1, lf, ps, tx, ks, PA, pc, TA, tc, KA, kc, hd1, rfl, rfl, hp, ht, hf, hks⟩ := hn.open_
    obtain ⟨e1, lf', ps', tx', ks', PA', pc', TA', tc', KA', kc', hd2, rfl, rfl, hp', ht', hf', hks'⟩ := hn'.open_
    obtain rfl : d = d1 := by omega
    obtain ⟨wb, hwb⟩ : ∃ wb, wb = (w.alloc (.cells #[.bool lf, .slice PA ps.length pc, .slice TA tx.length tc, .slice KA ks.length kc] 27)).alloc (.cells #[.bool lf', .slice PA' ps'.length pc', .slice TA' tx'.length tc', .slice KA' ks'.length kc'] 27) := ⟨_, rfl⟩
    have hb1 : Below w.heap.size w wb := hwb ▸ below_mono2 (Below.refl _ _) (Nat.le_refl _)
    have HC := hd (sameOne_any lf ps tx lf' ps' tx' PA TA KA PA' TA' KA' pc tc ks.length kc pc' tc' ks'.length kc' wb hf hf' ((hp.below hb1).more hb1.size) ((ht.below hb1).more hb1.size) ((hp'.below hb1).more hb1.size) ((ht'.below hb1).more hb1.size))
    have HB := hd hb1
    have HKS := hd hks
    have HKS' := hd hks'
    have HG := hd hg
    have hgl := cell_in hg
    have hl3 := hf.2.2.2.1
    have hl3' := hf'.2.2.2.1
    subst hwb
    clear hn hn' hp ht hf hks hp' ht' hf' hks' hb1 hd1 hd2 hg
    obtain ⟨S, hS⟩ : ∃ S, S = sameO lf ps tx ks.length lf' ps' tx' ks'.length := ⟨_, rfl⟩
    rw [← hS] at HC
    cases S
    · have HF := hd (eqT_one (ks := ks) (ks' := ks') hS.symm)
      clear hS ih HKS HKS' HG
      go_enter Try.func65, Try.ntmps65
      go_wp2_with (first | (refine HC.out.mono ?_; rintro e w' ⟨rfl, hb⟩; obtain ⟨⟨x0, x1, x2, x3⟩, ⟨y0, y1, y2, y3⟩, hlt⟩ := box8 hb))
      go_ret
      exact ⟨ret_bool HF.out.symm, HB.out.trans (hb.mono HB.out.size)⟩
    · have HS := hd hS.symm
      have hnk : ks.length = ks'.length := (of_decide_eq_true hS.symm).2.1
      have HNK := hd hnk
      clear hS hnk
      go_enter Try.func65, Try.ntmps65
      go_wp2_with (first | (refine HC.out.mono ?_; rintro e w' ⟨rfl, hb⟩; obtain ⟨⟨x0, x1, x2, x3⟩, ⟨y0, y1, y2, y3⟩, hlt⟩ := box8 hb))
      obtain ⟨N, hN⟩ : ∃ N, N = w'.heap.size := ⟨_, rfl⟩
      have HW := hd (HB.out.trans (hb.mono HB.out.size))
      have X3 := hd x3
      have Y3 := hd y3
      have hGL := hd hgl
      clear x0 x1 x2 x3 y0 y1 y2 y3 hb HC HB hgl
      go_loopw [14] (fun i wr => ∃ k : Nat, k ≤ ks.length ∧ i = .int .i64 k ∧ Hid (Below w'.heap.size w' wr) ∧ Hid (∀ j, j < k → ks[j]? = ks'[j]?)) (fun i _ => ks.length - (intOf i).toNat)
      case atStart => exact ⟨0, Nat.zero_le _, rfl, Below.refl _ _, fun j hj => absurd hj (Nat.not_lt_zero _)⟩
      case round =>
        obtain ⟨k, hk, rfl, HR, HA⟩ := hrel
        by_cases hlt2 : k < ks.length
        · have hlt3 : k < ks'.length := by have := HNK.out; omega
          have hbr := HW.out.trans (HR.out.mono HW.out.size)
          obtain ⟨m, b, o, lf1, PA1, np1, pc1, TA1, nt1, tc1, KA1, nk1, kc1, hm, rfl, hbg, hnm, c0, c1, c2, c3⟩ := (HKS.out.below hbr).at_ hlt2
          obtain ⟨m', b', o', lf2, PA2, np2, pc2, TA2, nt2, tc2, KA2, nk2, kc2, hm', rfl, hbg', hnm', c0', c1', c2', c3'⟩ := (HKS'.out.below hbr).at_ hlt3
          have gg := later_cell ((hbr.cell (p := ⟨g, 0, none⟩) hGL.out).trans HG.out)
          have l0 := later_cell c0
          have l1 := later_cell c1
          have l2 := later_cell c2
          have l3 := later_cell c3
          have l0' := later_cell c0'
          have l1' := later_cell c1'
          have l2' := later_cell c2'
          have l3' := later_cell c3'
          have lx := later_cell ((HR.out.cell (p := ⟨w.heap.size, 3, none⟩) (by show w.heap.size < _; omega)).trans X3.out)
          have ly := later_cell ((HR.out.cell (p := ⟨w.heap.size + 1, 3, none⟩) (by show w.heap.size + 1 < _; omega)).trans Y3.out)
          have HC := fun (u : Later wr.heap.size wr) => hd (ih e1 u.1 _ _ m m' (gg u) (((hnm.below (u.2.mono hbr.size))).more (Nat.le_trans hbr.size u.2.size)) (((hnm'.below (u.2.mono hbr.size))).more (Nat.le_trans hbr.size u.2.size)))
          obtain ⟨E, hE⟩ : ∃ E, E = eqT m m' := ⟨_, rfl⟩
          rw [← hE] at HC
          have HE := hd hE.symm
          have HM := hd hm
          have HM' := hd hm'
          have HBR := hd hbr
          clear hE hm hm' hnm hnm' c0 c1 c2 c3 c0' c1' c2' c3' hbr HKS HKS' ih
          cases E
          · have HF := hd (eqT_kid (lf := lf) (ps := ps) (tx := tx) (lf' := lf') (ps' := ps') (tx' := tx') HM.out HM'.out HE.out)
            clear HA
            go_wp2_with fail
            refine wp_region_later wr.heap.size (by kernel_rfl) (by kernel_rfl) ?_
            repeat (go_big_quiet_step (exact later_in (Nat.le_refl _) (HC _).out))
            refine wpQuiet_nil ?_
            intro _ hu
            obtain ⟨⟨w2, hw2⟩, rfl⟩ := hu
            clear l0 l1 l2 l3 l0' l1' l2' l3' lx ly gg HC
            go_wp2
            go_ret
            exact ⟨ret_bool HF.out.symm, HBR.out.trans (hw2.mono HBR.out.size)⟩
          · have HB2 := one_more (p := fun j => ks[j]? = ks'[j]?) HA (by rw [HM.out, HM'.out, eqT_true HE.out])
            clear HA
            go_wp2_with fail
            refine wp_region_later wr.heap.size (by kernel_rfl) (by kernel_rfl) ?_
            repeat (go_big_quiet_step (exact later_in (Nat.le_refl _) (HC _).out))
            refine wpQuiet_nil ?_
            intro _ hu
            obtain ⟨⟨w2, hw2⟩, rfl⟩ := hu
            clear l0 l1 l2 l3 l0' l1' l2' l3' lx ly gg HC
            go_wp2
            go_roundw
            case rel => exact ⟨k + 1, by omega, by go_num, hd (HR.out.trans (hw2.mono HR.out.size)), HB2⟩
            case measure => simp [intOf]; omega
        · have HF := hd (eqT_all HS.out (fun j hj => HA.out j (by omega)))
          clear HA
          go_wp2
          go_ret
          exact ⟨ret_bool HF.out.symm, HW.out.trans (HR.out.mono HW.out.size)⟩

set_option maxRecDepth 4000 in
set_option maxHeartbeats 2000000 in
theorem nsame_any (d d' : Nat) (w : World) (v v' : Value) (n n' : NT) (hn : NodeAt d w w.heap.size v n) (hn' : NodeAt d' w w.heap.size v' n') : Calls Try.prog 55 #[v, v'] w (Still (.bool (eqT n n')) w) := by
  have hn0 := hn
  have hn0' := hn'
  obtain ⟨d1, lf, ps, tx, ks, PA, pc, TA, tc, KA, kc, hd1, rfl, rfl, hp, ht, hf, hks⟩ := hn.open_
  obtain ⟨e1, lf', ps', tx', ks', PA', pc', TA', tc', KA', kc', hd2, rfl, rfl, hp', ht', hf', hks'⟩ := hn'.open_
  obtain ⟨f0, hf0⟩ : ∃ f : Value, f = .func (.func 65) #[] #[.pointer (some ⟨w.heap.size + 2, 0, none⟩)] := ⟨_, rfl⟩
  obtain ⟨wa, hwa⟩ : ∃ wa, wa = ((w.alloc (.cells #[.bool lf, .slice PA ps.length pc, .slice TA tx.length tc, .slice KA ks.length kc] 27)).alloc (.cells #[.bool lf', .slice PA' ps'.length pc', .slice TA' tx'.length tc', .slice KA' ks'.length kc'] 27)).alloc (.cells #[f0] 55) := ⟨_, rfl⟩
  have hba : Below w.heap.size w wa := hwa ▸ (below_mono2 (Below.refl _ _) (Nat.le_refl _)).alloc (by simp; omega) _
  have hca : wa.cell? ⟨w.heap.size + 2, 0, none⟩ = some f0 := by rw [hwa, World.cell?_alloc_at _ _ _ _ (by simp)]; rfl
  have HC := hd (alike_any (w.heap.size + 2) d d' wa _ _ _ _ (hf0 ▸ hca) (hn0.later hba) (hn0'.later hba))
  have HB := hd hba
  subst hwa hf0
  clear hn hn' hn0 hn0' hp ht hf hks hp' ht' hf' hks' hba hd1 hd2 hca
  go_enter Try.func55, Try.ntmps55
  go_wp2_with (first | (refine HC.out.mono ?_; rintro e w' ⟨rfl, hb⟩))
  go_ret
  exact ⟨rfl, HB.out.trans (hb.mono HB.out.size)⟩

end Go.Proofs.Ytdjajpookmmafaa
