/- The document's Insert, Remove, Cut. -/
import Derived.Test.YtnbcnljegkemiaaDoorGIns
namespace Go.Proofs.YtnbcnljegkemiaaDoor
open Go.RowKit
open Go.WideShapes (add_plain)

/-- A list's values appended to a row of the call's own, as one step of a region that draws. -/
theorem step_append_V {ts te : TypeId} {by_ : Nat} (E : Elem ts te by_) (hby : by_ ≤ 64) (W : World) {ops : Array Oper} {o : Oper} {a : Act} {K : Act → World → Prop} {Q : Exit → Act → World → Prop} {F : Prop} (hgd : o.guard = none) (s x : Operand)
    (ho : o.op = .call { callee := .builtin .append, args := #[s, x], argTypes := #[ts, ts] })
    (b : Nat) (v : Value) (k l : List Value) (hs : a.eval s = v) (hO : OwnV te W b v k) (A : Option Addr) (n c B : Nat) (hx : a.eval x = .slice A n c) (hn : l.length = n) (hp : VL W B A l) (h1 : ∀ u ∈ l, u.oneCell' = true) (hlen : k.length + l.length ≤ 100000) (hb : b ≤ W.heap.size)
    (hK : ∀ v' w', OwnV te w' b v' (k ++ l) → Grew b v W w' → K (a.put o.dst v') w') :
    if Region.wanted o (yielded ops a.tmps) = true then Oper.wp Tryd.prog o a W K Q else F := by
  have hw : Region.wanted o (yielded ops a.tmps) = true := by simp [Region.wanted, hgd]
  rw [if_pos hw]
  subst hn
  obtain ⟨i0, z, hi, hz0, hz1, hz2, hz3⟩ := E.info
  rcases A with _ | ad
  · have hl : l = [] := by
      rcases Classical.em (l = []) with h | h
      · exact h
      · obtain ⟨_, _, h, _⟩ := hp h; cases h
    subst hl
    have hown := hO.own
    have hrun : (Builtin.append_ #[ts, ts] o.type #[v, .slice none 0 c]).run Tryd.prog W = .ok v W := by
      rcases hown.2 with ⟨rfl, _⟩ | ⟨g, cap, cur, rfl, _, _, hnc, _⟩
      · simp [Builtin.append_, run_underlying E.under, sizeOf, typeInfo, hi, Builtin.lenOf, Builtin.firstCells]
      · simp [Builtin.append_, run_underlying E.under, sizeOf, typeInfo, hi, Builtin.lenOf, Builtin.firstCells, hnc, storeCells]
    unfold Oper.wp
    simp [execOp, ho, resolve, invoke, builtin, hs, hx, hrun, Result.andThen]
    exact hK v W (by rw [List.append_nil]; exact hO) (Grew.refl _ _ _)
  · have hc : ∀ j u, l[j]? = some u → W.cell? (ad.add j) = some u := by
      intro j u hj
      have hjl : j < l.length := (List.getElem?_eq_some_iff.1 hj).1
      obtain ⟨b', o', e, _, h⟩ := hp (by rintro rfl; simp at hjl)
      injection e with e
      subst e
      rw [add_plain, h j u hj]
    have hbb : (k.length + l.length) * by_ ≤ 100000 * 64 := Nat.mul_le_mul hlen hby
    refine wp_append_own _ s x ts ho b te i0 _ 1 by_ E.under hi hz0 hz1 hz2 hz3 (by decide) v k.length k hs hO.own ad l.length c l hx (by simp) hc h1
      (by unfold maxLen; omega) (by omega) hb (fun v' w' h1 h2 _ => hK v' w' (OwnV.of_own (n := k.length + l.length) h1 (by simp)) ?_)
    exact ⟨h2.size, fun B w0 hB hBW hb0 => hb0.grown h2 hBW (fun j hj => Nat.le_trans hB (hO.lt hj).1), fun p hp hne => World.cell?_of_block (h2.block p.block hp hne)⟩

/-- A piece out of the middle. -/
theorem mid_run (A : Option Addr) (n c k b : Nat) (hc : k + b ≤ c) : ∃ D : Option Addr, (∀ (w : World) (B : Nat) (xs : List Value), VL w B A xs → xs.length = n → n ≤ c → VL w B D ((xs.drop k).take b)) ∧
    (∀ W : World, (Instr.slice 22 (.slice A n c) (some (.int .i64 (k : Int))) (some (.int .i64 ((k : Int) + (b : Int)))) none).run Tryd.prog W = .ok (.slice D b (c - k)) W) := by
  refine ⟨if c = k then A else A.map (·.add (k * 1)), fun w B xs h hx hnc => (h.drop k c n hx.symm hnc).take b, fun W => ?_⟩
  have he : Tryd.prog.elem 22 = 21 := by kernel_rfl
  have hs : ∀ W, (sizeOf 21).run Tryd.prog W = .ok 1 W := fun _ => by kernel_rfl
  rw [run_slice_lh W 22 A n c (by rw [he]; exact Tryd.underlying22) .i64 .i64 _ _ (by omega) (by omega) (by omega), he, hs]
  have e : ((k : Int) + (b : Int)).toNat = k + b := by omega
  simp [Result.andThen, sliced, e]
set_option maxRecDepth 100000 in
set_option maxHeartbeats 8000000 in
theorem rinsert_any (A B : Option Addr) (l m : List Int) (a b c d : Nat) (p : Int) (w : World) (ha : l.length = a) (hb : m.length = b) (hl : a ≤ 1000) (hm : b ≤ 1000) (hac : a ≤ c) (_hbd : b ≤ d) (hp : VL w w.heap.size A (rv l)) (hq : VL w w.heap.size B (rv m)) :
    Calls Tryd.prog 12 #[.slice A a c, .int .i64 p, .slice B b d] w (NewE w (insL l p m)) := by
  have HCl := hd (rcheck_any A l a c w ha (by omega) hp)
  have HCm := hd (rcheck_any B m b d w hb (by omega) hq)
  unfold chkL at HCl HCm
  cases h1 : okR l
  · have HE := hd (show insL l p m = ([], 4) by unfold insL; rw [h1]; rfl)
    rw [h1] at HCl
    clear h1 hp hq ha hb
    go_enter Tryd.func12, Tryd.ntmps12
    go_wp2_with fail
    refine HCl.out.mono ?_
    rintro e w' ⟨rfl, rfl⟩
    go_wp2
    go_ret2
    exact newE_ret HE.out (OwnV.nil _ _) (Below.refl _ _)
  · cases h2 : okR m
    · have HE := hd (show insL l p m = ([], 4) by unfold insL; rw [h1, h2]; rfl)
      rw [h1] at HCl
      rw [h2] at HCm
      clear h1 h2 hp hq ha hb
      go_enter Tryd.func12, Tryd.ntmps12
      go_wp2_with fail
      refine HCl.out.mono ?_
      rintro e w' ⟨rfl, rfl⟩
      go_wp2_with fail
      refine HCm.out.mono ?_
      rintro e w' ⟨rfl, rfl⟩
      go_wp2
      go_ret2
      exact newE_ret HE.out (OwnV.nil _ _) (Below.refl _ _)
    · have hI : insL l p m = if 0 ≤ p ∧ p ≤ l.length then (l.take p.toNat ++ (m ++ l.drop p.toNat), 0) else ([], 8) := by unfold insL; rw [if_pos (by rw [h1, h2]; rfl)]
      rw [h1] at HCl
      rw [h2] at HCm
      rw [ha] at hI
      clear h1 h2
      rcases (show p < 0 ∨ (0 ≤ p ∧ p ≤ a) ∨ (0 ≤ p ∧ (a : Int) < p) by omega) with h3 | ⟨h3, h4⟩ | ⟨h3, h4⟩
      · have HE := hd (show insL l p m = ([], 8) by rw [hI, if_neg (by omega)])
        clear hI hp hq ha hb
        go_enter Tryd.func12, Tryd.ntmps12
        go_wp2_with fail
        refine HCl.out.mono ?_
        rintro e w' ⟨rfl, rfl⟩
        go_wp2_with fail
        refine HCm.out.mono ?_
        rintro e w' ⟨rfl, rfl⟩
        go_wp2
        go_ret2
        exact newE_ret HE.out (OwnV.nil _ _) (Below.refl _ _)
      · obtain ⟨k, rfl⟩ : ∃ k : Nat, p = k := ⟨p.toNat, by omega⟩
        have hka : k ≤ a := by omega
        have HE := hd (show insL l k m = (l.take k ++ (m ++ l.drop k), 0) by rw [hI, if_pos (by omega)]; rfl)
        obtain ⟨D, hD, hrun2⟩ := cut_run A a c k (by omega) hac
        have hrun1 := take_run A a c k (by omega)
        have hvd := hD w w.heap.size (rv l) hp (by rw [rv_len]; exact ha)
        rw [← rv_drop] at hvd
        have hvt := hp.take k
        rw [← rv_take] at hvt
        have HD := hd hvd
        have HQ := hd hq
        have F1 : Hid (∀ W : World, Below w.heap.size w W → Calls Tryd.prog 10 #[.slice A k c] W (NewI W (l.take k))) := hd (fun W hb => copy_any A (l.take k) k c W (by simp; omega) (by omega) (hvt.later hb))
        have HLm : Hid ((rv m).length = b) := hd (by rw [rv_len]; exact hb)
        have HLd : Hid ((rv (l.drop k)).length = a - k) := hd (by rw [rv_len]; simp; omega)
        have hlt : (rv (l.take k)).length ≤ 1000 := by rw [rv_len]; simp; omega
        clear hI hp hq ha hb hD hvd hvt h3 h4
        go_enter Tryd.func12, Tryd.ntmps12
        go_wp2_with fail
        refine HCl.out.mono ?_
        rintro e w' ⟨rfl, rfl⟩
        go_wp2_with fail
        refine HCm.out.mono ?_
        rintro e w' ⟨rfl, rfl⟩
        go_wp2_with fail
        go_region_law (first | ((go_simp; go_at_call 10; refine (F1.out _ (below_drew w)).mono ?_; intro e w2 h2; obtain ⟨v2, rfl, ho2, hb2⟩ := h2.old (below_drew w))) | ((refine step_append_V runeElem (by decide) w2 rfl (.tmp 27) (.tmp 28) rfl w.heap.size v2 (rv (l.take k)) (rv m) (by first | rfl | simp [Act.eval]) ho2 B b d w.heap.size (by first | rfl | simp [Act.eval]) HLm.out (HQ.out.below hb2) (rv_one _) (by have := HLm.out; omega) hb2.size ?_; intro v3 w3 ho3 hg3)) | ((refine step_append_V runeElem (by decide) w3 rfl (.tmp 29) (.tmp 32) rfl w.heap.size v3 (rv (l.take k) ++ rv m) (rv (l.drop k)) (by first | rfl | simp [Act.eval]) ho3 D (a - k) (c - k) w.heap.size (by first | rfl | simp [Act.eval]) HLd.out (HD.out.below (hg3.below _ _ (Nat.le_refl _) hb2.size hb2)) (rv_one _) (by have := HLm.out; have := HLd.out; simp; omega) (Nat.le_trans hb2.size hg3.size) ?_; intro v4 w4 ho4 hg4)))
        go_wp2
        go_ret2
        have hb3 := hg3.below w.heap.size w (Nat.le_refl _) hb2.size hb2
        have hb4 := hg4.below w.heap.size w (Nat.le_refl _) hb3.size hb3
        exact newE_ret HE.out (by rw [rv_append, rv_append, ← List.append_assoc]; exact ho4) hb4
      · have HE := hd (show insL l p m = ([], 8) by rw [hI, if_neg (by omega)])
        clear hI hp hq ha hb
        go_enter Tryd.func12, Tryd.ntmps12
        go_wp2_with fail
        refine HCl.out.mono ?_
        rintro e w' ⟨rfl, rfl⟩
        go_wp2_with fail
        refine HCm.out.mono ?_
        rintro e w' ⟨rfl, rfl⟩
        go_wp2
        go_ret2
        exact newE_ret HE.out (OwnV.nil _ _) (Below.refl _ _)

set_option maxRecDepth 100000 in
set_option maxHeartbeats 8000000 in
theorem rremove_any (A B : Option Addr) (l m : List Int) (a b c d : Nat) (p : Int) (w : World) (ha : l.length = a) (hb : m.length = b) (hl : a ≤ 1000) (hm : b ≤ 1000) (hac : a ≤ c) (_hbd : b ≤ d) (hp : VL w w.heap.size A (rv l)) (hq : VL w w.heap.size B (rv m)) :
    Calls Tryd.prog 14 #[.slice A a c, .int .i64 p, .slice B b d] w (NewE w (remL l p m)) := by
  have HCl := hd (rcheck_any A l a c w ha (by omega) hp)
  have HCm := hd (rcheck_any B m b d w hb (by omega) hq)
  unfold chkL at HCl HCm
  cases h1 : okR l
  · have HE := hd (show remL l p m = ([], 4) by unfold remL; rw [h1]; rfl)
    rw [h1] at HCl
    clear h1 hp hq ha hb
    go_enter Tryd.func14, Tryd.ntmps14
    go_wp2_with fail
    refine HCl.out.mono ?_
    rintro e w' ⟨rfl, rfl⟩
    go_wp2
    go_ret2
    exact newE_ret HE.out (OwnV.nil _ _) (Below.refl _ _)
  · cases h2 : okR m
    · have HE := hd (show remL l p m = ([], 4) by unfold remL; rw [h1, h2]; rfl)
      rw [h1] at HCl
      rw [h2] at HCm
      clear h1 h2 hp hq ha hb
      go_enter Tryd.func14, Tryd.ntmps14
      go_wp2_with fail
      refine HCl.out.mono ?_
      rintro e w' ⟨rfl, rfl⟩
      go_wp2_with fail
      refine HCm.out.mono ?_
      rintro e w' ⟨rfl, rfl⟩
      go_wp2
      go_ret2
      exact newE_ret HE.out (OwnV.nil _ _) (Below.refl _ _)
    · have hI : remL l p m = if 0 ≤ p ∧ p ≤ l.length then if (l.drop p.toNat).take m.length = m then (l.take p.toNat ++ l.drop (p.toNat + m.length), 0) else ([], 9) else ([], 8) := by unfold remL; rw [if_pos (by rw [h1, h2]; rfl)]
      rw [h1] at HCl
      rw [h2] at HCm
      rw [ha] at hI
      clear h1 h2
      rcases (show p < 0 ∨ (0 ≤ p ∧ p ≤ a) ∨ (0 ≤ p ∧ (a : Int) < p) by omega) with h3 | ⟨h3, h4⟩ | ⟨h3, h4⟩
      · have HE := hd (show remL l p m = ([], 8) by rw [hI, if_neg (by omega)])
        clear hI hp hq ha hb
        go_enter Tryd.func14, Tryd.ntmps14
        go_wp2_with fail
        refine HCl.out.mono ?_
        rintro e w' ⟨rfl, rfl⟩
        go_wp2_with fail
        refine HCm.out.mono ?_
        rintro e w' ⟨rfl, rfl⟩
        go_wp2
        go_ret2
        exact newE_ret HE.out (OwnV.nil _ _) (Below.refl _ _)
      · obtain ⟨k, rfl⟩ : ∃ k : Nat, p = k := ⟨p.toNat, by omega⟩
        have hka : k ≤ a := by omega
        have hI2 : remL l k m = if (l.drop k).take m.length = m then (l.take k ++ l.drop (k + m.length), 0) else ([], 9) := by rw [hI, if_pos (by omega)]; rfl
        clear hI h3 h4
        by_cases hfit : k + b ≤ a
        · obtain ⟨M, hM, hrunM⟩ := mid_run A a c k b (by omega)
          have hvm := hM w w.heap.size (rv l) hp (by rw [rv_len]; exact ha) hac
          rw [← rv_drop, ← rv_take] at hvm
          have hlM : ((l.drop k).take b).length = b := by simp; omega
          have g1 : ¬ ((a : Int) - (k : Int) < (b : Int)) := by omega
          have g1b : ¬ (a - k < b) := by omega
          have hsum : (k : Int) + (b : Int) ≤ c := by omega
          cases hr : decide ((l.drop k).take b = m)
          · have HE := hd (show remL l k m = ([], 9) by rw [hI2, hb, if_neg (of_decide_eq_false hr)])
            have HS := hd (rsame_any M B ((l.drop k).take b) m b b (c - k) d false hr w hlM hb (by omega) (by omega) hvm hq)
            clear hI2 hp hq ha hb hM hvm hlM hr
            go_enter Tryd.func14, Tryd.ntmps14
            go_wp2_with fail
            refine HCl.out.mono ?_
            rintro e w' ⟨rfl, rfl⟩
            go_wp2_with fail
            refine HCm.out.mono ?_
            rintro e w' ⟨rfl, rfl⟩
            go_wp2_with fail
            refine HS.out.mono ?_
            intro e w1 h1
            obtain ⟨rfl, hb1⟩ := h1.still
            go_wp2
            go_ret2
            exact newE_ret HE.out (OwnV.nil _ _) hb1
          · have HE := hd (show remL l k m = (l.take k ++ l.drop (k + m.length), 0) by rw [hI2, hb, if_pos (of_decide_eq_true hr)])
            have HS := hd (rsame_any M B ((l.drop k).take b) m b b (c - k) d true hr w hlM hb (by omega) (by omega) hvm hq)
            obtain ⟨D2, hD2, hrun3⟩ := cut_run A a c (k + b) hfit hac
            have hvd2 := hD2 w w.heap.size (rv l) hp (by rw [rv_len]; exact ha)
            rw [← rv_drop] at hvd2
            have hrun1 := take_run A a c k (by omega)
            have hrun4 : ∀ W : World, (Instr.slice 22 (.slice A a c) (some (.int .i64 ((k : Int) + (b : Int)))) none none).run Tryd.prog W = .ok (.slice D2 (a - (k + b)) (c - (k + b))) W := fun W => by
              have := hrun3 W
              rwa [Int.natCast_add] at this
            have hwr : IntKind.i64.wrap ((k : Int) + (b : Int)) = (k : Int) + (b : Int) := IntWalk.i64_in _ (by omega)
            have hvt := hp.take k
            rw [← rv_take] at hvt
            have F1 : Hid (∀ W : World, Below w.heap.size w W → Calls Tryd.prog 10 #[.slice A k c] W (NewI W (l.take k))) := hd (fun W hb => copy_any A (l.take k) k c W (by simp; omega) (by omega) (hvt.later hb))
            have HD2 := hd hvd2
            have HLd : Hid ((rv (l.drop (k + b))).length = a - (k + b)) := hd (by rw [rv_len]; simp; omega)
            have HB := hd hb
            have hlt : (rv (l.take k)).length ≤ 1000 := by rw [rv_len]; simp; omega
            clear hI2 hp hq ha hb hM hvm hlM hr hD2 hrun3 hvd2 hvt
            go_enter Tryd.func14, Tryd.ntmps14
            go_wp2_with fail
            refine HCl.out.mono ?_
            rintro e w' ⟨rfl, rfl⟩
            go_wp2_with fail
            refine HCm.out.mono ?_
            rintro e w' ⟨rfl, rfl⟩
            go_wp2_with fail
            refine HS.out.mono ?_
            intro e w1 h1
            obtain ⟨rfl, hb1⟩ := h1.still
            clear h1
            have hb1d : Below w.heap.size w w1.drew := hb1.trans ((below_drew w1).mono hb1.size)
            go_wp2_with fail
            go_region_law (first | ((go_simp; go_at_call 10; refine (F1.out _ hb1d).mono ?_; intro e w2 h2; obtain ⟨v2, rfl, ho2, hb2⟩ := h2.old hb1d)) | ((refine step_append_V runeElem (by decide) w2 rfl (.tmp 46) (.tmp 52) rfl w.heap.size v2 (rv (l.take k)) (rv (l.drop (k + b))) (by first | rfl | simp [Act.eval]) ho2 D2 (a - (k + b)) (c - (k + b)) w.heap.size (by first | rfl | simp [Act.eval]) HLd.out (HD2.out.below hb2) (rv_one _) (by have := HLd.out; omega) hb2.size ?_; intro v3 w3 ho3 hg3)))
            go_wp2
            go_ret2
            have hb3 := hg3.below w.heap.size w (Nat.le_refl _) hb2.size hb2
            exact newE_ret HE.out (by rw [HB.out, rv_append]; exact ho3) hb3
        · have HE := hd (show remL l k m = ([], 9) by
            rw [hI2, if_neg]
            intro e
            have := congrArg List.length e
            simp at this
            omega)
          have g1 : (a : Int) - (k : Int) < (b : Int) := by omega
          have g2 : a - k < b := by omega
          clear hI2 hp hq ha hb hfit
          go_enter Tryd.func14, Tryd.ntmps14
          go_wp2_with fail
          refine HCl.out.mono ?_
          rintro e w' ⟨rfl, rfl⟩
          go_wp2_with fail
          refine HCm.out.mono ?_
          rintro e w' ⟨rfl, rfl⟩
          go_wp2
          go_ret2
          exact newE_ret HE.out (OwnV.nil _ _) (Below.refl _ _)
      · have HE := hd (show remL l p m = ([], 8) by rw [hI, if_neg (by omega)])
        clear hI hp hq ha hb
        go_enter Tryd.func14, Tryd.ntmps14
        go_wp2_with fail
        refine HCl.out.mono ?_
        rintro e w' ⟨rfl, rfl⟩
        go_wp2_with fail
        refine HCm.out.mono ?_
        rintro e w' ⟨rfl, rfl⟩
        go_wp2
        go_ret2
        exact newE_ret HE.out (OwnV.nil _ _) (Below.refl _ _)

set_option maxRecDepth 100000 in
set_option maxHeartbeats 8000000 in
theorem rcut_any (A : Option Addr) (l : List Int) (a c : Nat) (p : Int) (w : World) (ha : l.length = a) (hl : a ≤ 1000) (hac : a ≤ c) (hp : VL w w.heap.size A (rv l)) :
    Calls Tryd.prog 16 #[.slice A a c, .int .i64 p] w (NewC w (cutL l p)) := by
  have HCl := hd (rcheck_any A l a c w ha (by omega) hp)
  unfold chkL at HCl
  cases h1 : okR l
  · have HE := hd (show cutL l p = (([], []), 4) by unfold cutL; rw [h1]; rfl)
    rw [h1] at HCl
    clear h1 hp ha
    go_enter Tryd.func16, Tryd.ntmps16
    go_wp2_with fail
    refine HCl.out.mono ?_
    rintro e w' ⟨rfl, rfl⟩
    go_wp2
    go_ret3
    exact newC_ret HE.out (OwnV.nil _ _) (OwnV.nil _ _) (Below.refl _ _)
  · have hI : cutL l p = if 0 ≤ p ∧ p ≤ l.length then ((l.take p.toNat, l.drop p.toNat), 0) else (([], []), 8) := by unfold cutL; rw [if_pos h1]
    rw [h1] at HCl
    rw [ha] at hI
    clear h1
    rcases (show p < 0 ∨ (0 ≤ p ∧ p ≤ a) ∨ (0 ≤ p ∧ (a : Int) < p) by omega) with h3 | ⟨h3, h4⟩ | ⟨h3, h4⟩
    · have HE := hd (show cutL l p = (([], []), 8) by rw [hI, if_neg (by omega)])
      clear hI hp ha
      go_enter Tryd.func16, Tryd.ntmps16
      go_wp2_with fail
      refine HCl.out.mono ?_
      rintro e w' ⟨rfl, rfl⟩
      go_wp2
      go_ret3
      exact newC_ret HE.out (OwnV.nil _ _) (OwnV.nil _ _) (Below.refl _ _)
    · obtain ⟨k, rfl⟩ : ∃ k : Nat, p = k := ⟨p.toNat, by omega⟩
      have hka : k ≤ a := by omega
      have HI := hd (show cutL l k = ((l.take k, l.drop k), 0) by rw [hI, if_pos (by omega)]; rfl)
      obtain ⟨D, hD, hrun2⟩ := cut_run A a c k (by omega) hac
      have hrun1 := take_run A a c k (by omega)
      have hvd := hD w w.heap.size (rv l) hp (by rw [rv_len]; exact ha)
      rw [← rv_drop] at hvd
      have hvt := hp.take k
      rw [← rv_take] at hvt
      have F1 : Hid (∀ W : World, Below w.heap.size w W → Calls Tryd.prog 10 #[.slice A k c] W (NewI W (l.take k))) := hd (fun W hb => copy_any A (l.take k) k c W (by simp; omega) (by omega) (hvt.later hb))
      have F2 : Hid (∀ W : World, Below w.heap.size w W → Calls Tryd.prog 10 #[.slice D (a - k) (c - k)] W (NewI W (l.drop k))) := hd (fun W hb => copy_any D (l.drop k) (a - k) (c - k) W (by simp; omega) (by omega) (hvd.later hb))
      clear hI hD hp ha hvd hvt h3 h4
      go_enter Tryd.func16, Tryd.ntmps16
      go_wp2_with fail
      refine HCl.out.mono ?_
      rintro e w' ⟨rfl, rfl⟩
      go_wp2_with fail
      go_region_law (first | ((go_simp; go_at_call 10; refine (F1.out _ (below_drew w)).mono ?_; intro e w2 h2; obtain ⟨v2, rfl, ho2, hb2⟩ := h2)) | ((go_simp; go_at_call 10; refine (F2.out _ ((below_drew w).trans (hb2.mono (by simp)))).mono ?_; intro e w3 h3; obtain ⟨v3, rfl, ho3, hb3⟩ := h3)))
      go_wp2
      go_ret3
      have hb2' : Below w.heap.size w w2 := (below_drew w).trans hb2
      have hb3' : Below w.heap.size w w3 := hb2'.trans (hb3.mono hb2'.size)
      exact newC_ret HI.out (ho2.below hb3) (ho3.weaken hb2'.size) hb3'
    · have HE := hd (show cutL l p = (([], []), 8) by rw [hI, if_neg (by omega)])
      clear hI hp ha
      go_enter Tryd.func16, Tryd.ntmps16
      go_wp2_with fail
      refine HCl.out.mono ?_
      rintro e w' ⟨rfl, rfl⟩
      go_wp2
      go_ret3
      exact newC_ret HE.out (OwnV.nil _ _) (OwnV.nil _ _) (Below.refl _ _)

end Go.Proofs.YtnbcnljegkemiaaDoor
