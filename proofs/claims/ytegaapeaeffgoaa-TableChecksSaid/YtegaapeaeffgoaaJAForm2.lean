/- The program's form of a rule. A region that draws its order: whatever order is picked, a fact S stands behind each operation but those that are named; what yields the same in each such world may be taken first. -/
import Derived.Test.YtegaapeaeffgoaaAForm
import Derived.Test.YtegaapeaeffgoaaJPSpec
import Derived.OrdersHeld
namespace Go.Proofs.Ytegaapeaeffgoaa
open Go.RowKit

theorem wpList_load_atg {t : TypeId} {n : Nat} (hrow : RowT t n) {ops : Array Oper} {rest : List Oper} {op : Oper} {a : Act} {w : World} {Q : Exit → Act → World → Prop} {g off : Nat} {r : Array Value} (h : w.rangeAt g off r.toList) (hn : r.size = n)
    (x : Operand) (ho : op.op = .load t x) (hw : Region.wanted op (yielded ops a.tmps) = true) (hx : a.eval x = .pointer (some ⟨g, off, none⟩)) (hk : wpList Try.prog ops Q rest (a.put op.dst (.agg r)) w) : wpList Try.prog ops Q (op :: rest) a w := by
  obtain ⟨d, h1, h2, h3⟩ := hrow
  refine wpList_step fun K hK => ?_
  rw [if_pos hw]
  exact wp_load_mid t x ho g off hx r.toList d h h1 h2 (by rw [h3, ← hn]; simp) (hK _ _ hk)
set_option maxRecDepth 4000 in
theorem anyN_not {p : Nat → Bool} {n : Nat} : anyN (fun k => !p k) n = !(List.range n).all p := by
  unfold anyN
  induction (List.range n) with
  | nil => rfl
  | cons x l ih => rw [List.any_cons, List.all_cons, ih]; cases p x <;> simp
set_option maxRecDepth 4000 in
theorem all_and {α : Type} (p q : α → Bool) (l : List α) : l.all (fun x => p x && q x) = (l.all p && l.all q) := by
  induction l with
  | nil => rfl
  | cons x l ih => rw [List.all_cons, List.all_cons, List.all_cons, ih]; cases p x <;> cases q x <;> simp
set_option maxRecDepth 4000 in
theorem kidsOk_parts (l : List PairT) : kidsOk l = (riseT (fun k => (kidAt l k).ty) l.length && !anyN (fun k => !formT (kidAt l k).act) l.length) := by
  rw [anyN_not, Bool.not_not]
  unfold kidsOk riseT
  rw [← all_and]
  congr 1
  funext i
  unfold stepK stepR
  cases nameT (kidAt l i).ty <;> simp
set_option maxRecDepth 4000 in
theorem ruleOk_parts (r : RuleT) : ruleOk r = ((decide (r.kids.length ≤ 32) && riseT (fun k => (kidAt r.kids k).ty) r.kids.length) && (formL r.text true && (formL r.other false && (!anyN (fun k => !formT (kidAt r.kids k).act) r.kids.length && fillT r)))) := by
  unfold ruleOk formL
  rw [kidsOk_parts]
  cases decide (r.kids.length ≤ 32) <;> cases formT r.text <;> cases (r.text.act != 3) <;> cases formT r.other <;> cases riseT (fun k => (kidAt r.kids k).ty) r.kids.length <;> simp
set_option maxRecDepth 100000 in
set_option maxHeartbeats 8000000 in
theorem formrule_any {w : World} {c : RuC} {r : RuleT} (h : RuAt w c r) {E : Bool} (hE : ruleOk r = E) : Calls Try.prog 40 #[.agg c.row] w (Still (.bool E) w) := by
  obtain ⟨ty, td, tt, od, ot, K, nk, ck, fill, fty⟩ := c
  have hb : Below w.heap.size w (w.alloc (.cells (RuC.mk ty td tt od ot K nk ck fill fty).row 27)) := (Below.refl _ _).alloc (Nat.le_refl _) _
  have hv := VarR.new w 27 (RuC.mk ty td tt od ot K nk ck fill fty).row
  obtain ⟨W0, hW⟩ : ∃ W0, w.alloc (.cells (RuC.mk ty td tt od ot K nk ck fill fty).row 27) = W0 := ⟨_, rfl⟩
  rw [hW] at hb hv
  have hN : r.kids.length = nk := h.len
  have hKV : VL W0 W0.heap.size K (cellsP r.kids) := (show VL w w.heap.size K (cellsP r.kids) from h.kids).later hb
  have hT : r.text = ⟨td, tt⟩ := h.htext
  have hO : r.other = ⟨od, ot⟩ := h.hother
  have hFi : r.fill = fill := h.hfill
  have hFt : r.fty = fty := h.hfty
  have fit := h.fit
  rw [ruleOk_parts] at hE
  obtain ⟨A, hA⟩ : ∃ A, (decide (r.kids.length ≤ 32) && riseT (fun k => (kidAt r.kids k).ty) r.kids.length) = A := ⟨_, rfl⟩
  obtain ⟨B, hB⟩ : ∃ B, formL r.text true = B := ⟨_, rfl⟩
  obtain ⟨C, hC⟩ : ∃ C, formL r.other false = C := ⟨_, rfl⟩
  obtain ⟨D, hD⟩ : ∃ D, anyN (fun k => !formT (kidAt r.kids k).act) r.kids.length = D := ⟨_, rfl⟩
  rw [hA, hB, hC, hD] at hE
  have HC1 := hd (rise_pair (c := ck) (kidAt r.kids) (rowA_pairs hN hKV) (fun k hk => by rw [kidAt_mem (by omega)]; exact (fit.kids _ (List.getElem_mem _)).1) (h.max) (E := A) (by rw [← hN]; exact hA))
  have HE := hd hE
  have HW := hd hW
  have HB := hd hb
  have V1 := hd hv
  have l5 : W0.cell? ⟨w.heap.size, 5, none⟩ = some (.slice K nk ck) := hv.cell 5 _ rfl
  cases A with
  | false =>
    clear h hW hb hv hN hKV hT hO hFi hFt fit hA hB hC hD hE
    go_enter Try.func40, Try.ntmps40
    go_upto_region 1 with fail
    rw [HW.out]
    go_wp2_with (go_at_call 60; refine HC1.out.mono ?_; rintro e9 w1 ⟨rfl, b9⟩; have HB := hd (step_b HB.out b9); clear b9)
    go_ret
    exact ⟨ret_bool (by simpa using HE.out), HB.out⟩
  | true =>
    have hn32 : nk ≤ 32 := by
      rw [Bool.and_eq_true, decide_eq_true_eq] at hA
      omega
    have HC2 := fun W => hd (formact_any (a := ⟨td, tt⟩) (by have := fit.tt; rw [hT] at this; exact this) true (E := B) (by rw [← hT]; exact hB) W)
    have HC3 := fun W => hd (formact_any (a := ⟨od, ot⟩) (by have := fit.ot; rw [hO] at this; exact this) false (E := C) (by rw [← hO]; exact hC) W)
    have HC4 := fun (W : World) (hb : Below W0.heap.size W0 W) => hd (cont_pair (c := ck) (fid := 63) (bs := #[]) (p := fun k => !formT (kidAt r.kids k).act) (E := D) (by omega) ((rowA_pairs hN hKV).later hb) ⟨fun _ _ => by kernel_rfl, fun k hk W' _ => form1_any (kidAt r.kids k) (by rw [kidAt_mem (by omega)]; exact (fit.kids _ (List.getElem_mem _)).2) rfl W'⟩ (by rw [← hN]; exact hD))
    have hem : (emptyN fty = true ∧ fty.toList = [] ∧ fty.toList.isEmpty = true) ∨ (emptyN fty = false ∧ fty.toList ≠ [] ∧ fty.toList.isEmpty = false) := by
      unfold emptyN
      cases h : fty.toList with
      | nil => exact .inl ⟨rfl, rfl, rfl⟩
      | cons x l => exact .inr ⟨rfl, by simp, rfl⟩
    obtain ⟨v, hv9⟩ : ∃ v, nameT fty = v := ⟨_, rfl⟩
    have hft : FitN1 fty := by rw [← hFt]; exact fit.fty
    have HC5 := fun W => hd (isname_any hft hv9 W)
    obtain ⟨F, hF⟩ : ∃ F, fillT r = F := ⟨_, rfl⟩
    rw [hF] at hE
    have HE := hd hE
    unfold fillT at hF
    rw [hFi, hFt, hv9] at hF
    have HB0 := hd (Below.refl W0.heap.size W0)
    clear h hW hb hv hN hKV hT hO hFi hFt fit hA hB hC hD hE hft hv9
    by_cases f2 : fill = 2
    · subst f2
      rw [if_neg (by decide), if_pos rfl] at hF
      have HF := hd hF
      clear hem hF
      have l6 : W0.cell? ⟨w.heap.size, 6, none⟩ = some (.int .i64 (2)) := V1.out.cell 6 _ rfl
      have l7 : W0.cell? ⟨w.heap.size, 7, none⟩ = some (.string fty) := V1.out.cell 7 _ rfl
      go_enter Try.func40, Try.ntmps40
      go_upto_region 1 with fail
      rw [HW.out]
      go_wp2_with (first
        | (go_at_call 60; refine HC1.out.mono ?_; rintro e9 w1 ⟨rfl, b9⟩; clear l5 l6 l7; have V1 := hd (V1.out.keep b9); have l5 : w1.cell? ⟨w.heap.size, 5, none⟩ = some (.slice K nk ck) := V1.out.cell 5 _ rfl; have l6 : w1.cell? ⟨w.heap.size, 6, none⟩ = some (.int .i64 (2)) := V1.out.cell 6 _ rfl; have l7 : w1.cell? ⟨w.heap.size, 7, none⟩ = some (.string fty) := V1.out.cell 7 _ rfl; have HB := hd (step_b HB.out b9); have HB0 := hd (step_b HB0.out b9); clear b9)
        | ((with_reducible refine gd_loadg (ty := 24) (x := .tmp 8) ?_); refine wpList_load_atg rowT_act (r := #[.int .i64 td, .string tt]) (V1.out.two 1 rfl rfl) rfl _ rfl (by rfl) rfl ?_)
        | ((with_reducible refine gd_loadg (ty := 24) (x := .tmp 14) ?_); refine wpList_load_atg rowT_act (r := #[.int .i64 od, .string ot]) (V1.out.two 3 rfl rfl) rfl _ rfl (by rfl) rfl ?_)
        | (go_at_call 61; have g2 := HC2; clear HC2; refine (g2 _).out.mono ?_; clear g2; rintro e9 w2 ⟨rfl, b9⟩; clear l5 l6 l7; have V1 := hd (V1.out.keep b9); have l5 : w2.cell? ⟨w.heap.size, 5, none⟩ = some (.slice K nk ck) := V1.out.cell 5 _ rfl; have l6 : w2.cell? ⟨w.heap.size, 6, none⟩ = some (.int .i64 (2)) := V1.out.cell 6 _ rfl; have l7 : w2.cell? ⟨w.heap.size, 7, none⟩ = some (.string fty) := V1.out.cell 7 _ rfl; have HB := hd (step_b HB.out b9); have HB0 := hd (step_b HB0.out b9); clear b9)
        | (go_at_call 61; refine (HC3 _).out.mono ?_; rintro e9 w3 ⟨rfl, b9⟩; clear l5 l6 l7; have V1 := hd (V1.out.keep b9); have l5 : w3.cell? ⟨w.heap.size, 5, none⟩ = some (.slice K nk ck) := V1.out.cell 5 _ rfl; have l6 : w3.cell? ⟨w.heap.size, 6, none⟩ = some (.int .i64 (2)) := V1.out.cell 6 _ rfl; have l7 : w3.cell? ⟨w.heap.size, 7, none⟩ = some (.string fty) := V1.out.cell 7 _ rfl; have HB := hd (step_b HB.out b9); have HB0 := hd (step_b HB0.out b9); clear b9)
        | (go_at_call 62; refine (HC4 _ HB0.out).out.mono ?_; rintro e9 w4 ⟨rfl, b9⟩; clear l5 l6 l7; have V1 := hd (V1.out.keep b9); have l5 : w4.cell? ⟨w.heap.size, 5, none⟩ = some (.slice K nk ck) := V1.out.cell 5 _ rfl; have l6 : w4.cell? ⟨w.heap.size, 6, none⟩ = some (.int .i64 (2)) := V1.out.cell 6 _ rfl; have l7 : w4.cell? ⟨w.heap.size, 7, none⟩ = some (.string fty) := V1.out.cell 7 _ rfl; have HB := hd (step_b HB.out b9); have HB0 := hd (step_b HB0.out b9); clear b9)
        | (go_at_call 57; refine (HC5 _).out.mono ?_; rintro e9 w5 ⟨rfl, rfl⟩))
      all_goals (go_ret; exact ⟨ret_bool (by have e1 := HE.out; have e2 := HF.out; simp_all), HB.out⟩)
    · have e2 : (fill == 2) = false := by simpa using f2
      by_cases f0 : fill = 0
      · subst f0
        rw [if_pos (.inl rfl)] at hF
        rcases hem with ⟨z, h0, h1⟩ | ⟨z, h0, h1⟩
        · rw [z] at hF
          have HF := hd hF
          clear hF z
          have l6 : W0.cell? ⟨w.heap.size, 6, none⟩ = some (.int .i64 (0)) := V1.out.cell 6 _ rfl
          have l7 : W0.cell? ⟨w.heap.size, 7, none⟩ = some (.string fty) := V1.out.cell 7 _ rfl
          go_enter Try.func40, Try.ntmps40
          go_upto_region 1 with fail
          rw [HW.out]
          go_wp2_with (first
            | (go_at_call 60; refine HC1.out.mono ?_; rintro e9 w1 ⟨rfl, b9⟩; clear l5 l6 l7; have V1 := hd (V1.out.keep b9); have l5 : w1.cell? ⟨w.heap.size, 5, none⟩ = some (.slice K nk ck) := V1.out.cell 5 _ rfl; have l6 : w1.cell? ⟨w.heap.size, 6, none⟩ = some (.int .i64 (0)) := V1.out.cell 6 _ rfl; have l7 : w1.cell? ⟨w.heap.size, 7, none⟩ = some (.string fty) := V1.out.cell 7 _ rfl; have HB := hd (step_b HB.out b9); have HB0 := hd (step_b HB0.out b9); clear b9)
            | ((with_reducible refine gd_loadg (ty := 24) (x := .tmp 8) ?_); refine wpList_load_atg rowT_act (r := #[.int .i64 td, .string tt]) (V1.out.two 1 rfl rfl) rfl _ rfl (by rfl) rfl ?_)
            | ((with_reducible refine gd_loadg (ty := 24) (x := .tmp 14) ?_); refine wpList_load_atg rowT_act (r := #[.int .i64 od, .string ot]) (V1.out.two 3 rfl rfl) rfl _ rfl (by rfl) rfl ?_)
            | (go_at_call 61; have g2 := HC2; clear HC2; refine (g2 _).out.mono ?_; clear g2; rintro e9 w2 ⟨rfl, b9⟩; clear l5 l6 l7; have V1 := hd (V1.out.keep b9); have l5 : w2.cell? ⟨w.heap.size, 5, none⟩ = some (.slice K nk ck) := V1.out.cell 5 _ rfl; have l6 : w2.cell? ⟨w.heap.size, 6, none⟩ = some (.int .i64 (0)) := V1.out.cell 6 _ rfl; have l7 : w2.cell? ⟨w.heap.size, 7, none⟩ = some (.string fty) := V1.out.cell 7 _ rfl; have HB := hd (step_b HB.out b9); have HB0 := hd (step_b HB0.out b9); clear b9)
            | (go_at_call 61; refine (HC3 _).out.mono ?_; rintro e9 w3 ⟨rfl, b9⟩; clear l5 l6 l7; have V1 := hd (V1.out.keep b9); have l5 : w3.cell? ⟨w.heap.size, 5, none⟩ = some (.slice K nk ck) := V1.out.cell 5 _ rfl; have l6 : w3.cell? ⟨w.heap.size, 6, none⟩ = some (.int .i64 (0)) := V1.out.cell 6 _ rfl; have l7 : w3.cell? ⟨w.heap.size, 7, none⟩ = some (.string fty) := V1.out.cell 7 _ rfl; have HB := hd (step_b HB.out b9); have HB0 := hd (step_b HB0.out b9); clear b9)
            | (go_at_call 62; refine (HC4 _ HB0.out).out.mono ?_; rintro e9 w4 ⟨rfl, b9⟩; clear l5 l6 l7; have V1 := hd (V1.out.keep b9); have l5 : w4.cell? ⟨w.heap.size, 5, none⟩ = some (.slice K nk ck) := V1.out.cell 5 _ rfl; have l6 : w4.cell? ⟨w.heap.size, 6, none⟩ = some (.int .i64 (0)) := V1.out.cell 6 _ rfl; have l7 : w4.cell? ⟨w.heap.size, 7, none⟩ = some (.string fty) := V1.out.cell 7 _ rfl; have HB := hd (step_b HB.out b9); have HB0 := hd (step_b HB0.out b9); clear b9)
            | (go_at_call 57; refine (HC5 _).out.mono ?_; rintro e9 w5 ⟨rfl, rfl⟩))
          all_goals (go_ret; exact ⟨ret_bool (by have e1 := HE.out; have e2 := HF.out; simp_all), HB.out⟩)
        · rw [z] at hF
          have HF := hd hF
          clear hF z
          have l6 : W0.cell? ⟨w.heap.size, 6, none⟩ = some (.int .i64 (0)) := V1.out.cell 6 _ rfl
          have l7 : W0.cell? ⟨w.heap.size, 7, none⟩ = some (.string fty) := V1.out.cell 7 _ rfl
          go_enter Try.func40, Try.ntmps40
          go_upto_region 1 with fail
          rw [HW.out]
          go_wp2_with (first
            | (go_at_call 60; refine HC1.out.mono ?_; rintro e9 w1 ⟨rfl, b9⟩; clear l5 l6 l7; have V1 := hd (V1.out.keep b9); have l5 : w1.cell? ⟨w.heap.size, 5, none⟩ = some (.slice K nk ck) := V1.out.cell 5 _ rfl; have l6 : w1.cell? ⟨w.heap.size, 6, none⟩ = some (.int .i64 (0)) := V1.out.cell 6 _ rfl; have l7 : w1.cell? ⟨w.heap.size, 7, none⟩ = some (.string fty) := V1.out.cell 7 _ rfl; have HB := hd (step_b HB.out b9); have HB0 := hd (step_b HB0.out b9); clear b9)
            | ((with_reducible refine gd_loadg (ty := 24) (x := .tmp 8) ?_); refine wpList_load_atg rowT_act (r := #[.int .i64 td, .string tt]) (V1.out.two 1 rfl rfl) rfl _ rfl (by rfl) rfl ?_)
            | ((with_reducible refine gd_loadg (ty := 24) (x := .tmp 14) ?_); refine wpList_load_atg rowT_act (r := #[.int .i64 od, .string ot]) (V1.out.two 3 rfl rfl) rfl _ rfl (by rfl) rfl ?_)
            | (go_at_call 61; have g2 := HC2; clear HC2; refine (g2 _).out.mono ?_; clear g2; rintro e9 w2 ⟨rfl, b9⟩; clear l5 l6 l7; have V1 := hd (V1.out.keep b9); have l5 : w2.cell? ⟨w.heap.size, 5, none⟩ = some (.slice K nk ck) := V1.out.cell 5 _ rfl; have l6 : w2.cell? ⟨w.heap.size, 6, none⟩ = some (.int .i64 (0)) := V1.out.cell 6 _ rfl; have l7 : w2.cell? ⟨w.heap.size, 7, none⟩ = some (.string fty) := V1.out.cell 7 _ rfl; have HB := hd (step_b HB.out b9); have HB0 := hd (step_b HB0.out b9); clear b9)
            | (go_at_call 61; refine (HC3 _).out.mono ?_; rintro e9 w3 ⟨rfl, b9⟩; clear l5 l6 l7; have V1 := hd (V1.out.keep b9); have l5 : w3.cell? ⟨w.heap.size, 5, none⟩ = some (.slice K nk ck) := V1.out.cell 5 _ rfl; have l6 : w3.cell? ⟨w.heap.size, 6, none⟩ = some (.int .i64 (0)) := V1.out.cell 6 _ rfl; have l7 : w3.cell? ⟨w.heap.size, 7, none⟩ = some (.string fty) := V1.out.cell 7 _ rfl; have HB := hd (step_b HB.out b9); have HB0 := hd (step_b HB0.out b9); clear b9)
            | (go_at_call 62; refine (HC4 _ HB0.out).out.mono ?_; rintro e9 w4 ⟨rfl, b9⟩; clear l5 l6 l7; have V1 := hd (V1.out.keep b9); have l5 : w4.cell? ⟨w.heap.size, 5, none⟩ = some (.slice K nk ck) := V1.out.cell 5 _ rfl; have l6 : w4.cell? ⟨w.heap.size, 6, none⟩ = some (.int .i64 (0)) := V1.out.cell 6 _ rfl; have l7 : w4.cell? ⟨w.heap.size, 7, none⟩ = some (.string fty) := V1.out.cell 7 _ rfl; have HB := hd (step_b HB.out b9); have HB0 := hd (step_b HB0.out b9); clear b9)
            | (go_at_call 57; refine (HC5 _).out.mono ?_; rintro e9 w5 ⟨rfl, rfl⟩))
          all_goals (go_ret; exact ⟨ret_bool (by have e1 := HE.out; have e2 := HF.out; simp_all), HB.out⟩)
      · have e0 : (fill == 0) = false := by simpa using f0
        by_cases f1 : fill = 1
        · subst f1
          rw [if_pos (.inr rfl)] at hF
          rcases hem with ⟨z, h0, h1⟩ | ⟨z, h0, h1⟩
          · rw [z] at hF
            have HF := hd hF
            clear hF z
            have l6 : W0.cell? ⟨w.heap.size, 6, none⟩ = some (.int .i64 (1)) := V1.out.cell 6 _ rfl
            have l7 : W0.cell? ⟨w.heap.size, 7, none⟩ = some (.string fty) := V1.out.cell 7 _ rfl
            go_enter Try.func40, Try.ntmps40
            go_upto_region 1 with fail
            rw [HW.out]
            go_wp2_with (first
              | (go_at_call 60; refine HC1.out.mono ?_; rintro e9 w1 ⟨rfl, b9⟩; clear l5 l6 l7; have V1 := hd (V1.out.keep b9); have l5 : w1.cell? ⟨w.heap.size, 5, none⟩ = some (.slice K nk ck) := V1.out.cell 5 _ rfl; have l6 : w1.cell? ⟨w.heap.size, 6, none⟩ = some (.int .i64 (1)) := V1.out.cell 6 _ rfl; have l7 : w1.cell? ⟨w.heap.size, 7, none⟩ = some (.string fty) := V1.out.cell 7 _ rfl; have HB := hd (step_b HB.out b9); have HB0 := hd (step_b HB0.out b9); clear b9)
              | ((with_reducible refine gd_loadg (ty := 24) (x := .tmp 8) ?_); refine wpList_load_atg rowT_act (r := #[.int .i64 td, .string tt]) (V1.out.two 1 rfl rfl) rfl _ rfl (by rfl) rfl ?_)
              | ((with_reducible refine gd_loadg (ty := 24) (x := .tmp 14) ?_); refine wpList_load_atg rowT_act (r := #[.int .i64 od, .string ot]) (V1.out.two 3 rfl rfl) rfl _ rfl (by rfl) rfl ?_)
              | (go_at_call 61; have g2 := HC2; clear HC2; refine (g2 _).out.mono ?_; clear g2; rintro e9 w2 ⟨rfl, b9⟩; clear l5 l6 l7; have V1 := hd (V1.out.keep b9); have l5 : w2.cell? ⟨w.heap.size, 5, none⟩ = some (.slice K nk ck) := V1.out.cell 5 _ rfl; have l6 : w2.cell? ⟨w.heap.size, 6, none⟩ = some (.int .i64 (1)) := V1.out.cell 6 _ rfl; have l7 : w2.cell? ⟨w.heap.size, 7, none⟩ = some (.string fty) := V1.out.cell 7 _ rfl; have HB := hd (step_b HB.out b9); have HB0 := hd (step_b HB0.out b9); clear b9)
              | (go_at_call 61; refine (HC3 _).out.mono ?_; rintro e9 w3 ⟨rfl, b9⟩; clear l5 l6 l7; have V1 := hd (V1.out.keep b9); have l5 : w3.cell? ⟨w.heap.size, 5, none⟩ = some (.slice K nk ck) := V1.out.cell 5 _ rfl; have l6 : w3.cell? ⟨w.heap.size, 6, none⟩ = some (.int .i64 (1)) := V1.out.cell 6 _ rfl; have l7 : w3.cell? ⟨w.heap.size, 7, none⟩ = some (.string fty) := V1.out.cell 7 _ rfl; have HB := hd (step_b HB.out b9); have HB0 := hd (step_b HB0.out b9); clear b9)
              | (go_at_call 62; refine (HC4 _ HB0.out).out.mono ?_; rintro e9 w4 ⟨rfl, b9⟩; clear l5 l6 l7; have V1 := hd (V1.out.keep b9); have l5 : w4.cell? ⟨w.heap.size, 5, none⟩ = some (.slice K nk ck) := V1.out.cell 5 _ rfl; have l6 : w4.cell? ⟨w.heap.size, 6, none⟩ = some (.int .i64 (1)) := V1.out.cell 6 _ rfl; have l7 : w4.cell? ⟨w.heap.size, 7, none⟩ = some (.string fty) := V1.out.cell 7 _ rfl; have HB := hd (step_b HB.out b9); have HB0 := hd (step_b HB0.out b9); clear b9)
              | (go_at_call 57; refine (HC5 _).out.mono ?_; rintro e9 w5 ⟨rfl, rfl⟩))
            all_goals (go_ret; exact ⟨ret_bool (by have e1 := HE.out; have e2 := HF.out; simp_all), HB.out⟩)
          · rw [z] at hF
            have HF := hd hF
            clear hF z
            have l6 : W0.cell? ⟨w.heap.size, 6, none⟩ = some (.int .i64 (1)) := V1.out.cell 6 _ rfl
            have l7 : W0.cell? ⟨w.heap.size, 7, none⟩ = some (.string fty) := V1.out.cell 7 _ rfl
            go_enter Try.func40, Try.ntmps40
            go_upto_region 1 with fail
            rw [HW.out]
            go_wp2_with (first
              | (go_at_call 60; refine HC1.out.mono ?_; rintro e9 w1 ⟨rfl, b9⟩; clear l5 l6 l7; have V1 := hd (V1.out.keep b9); have l5 : w1.cell? ⟨w.heap.size, 5, none⟩ = some (.slice K nk ck) := V1.out.cell 5 _ rfl; have l6 : w1.cell? ⟨w.heap.size, 6, none⟩ = some (.int .i64 (1)) := V1.out.cell 6 _ rfl; have l7 : w1.cell? ⟨w.heap.size, 7, none⟩ = some (.string fty) := V1.out.cell 7 _ rfl; have HB := hd (step_b HB.out b9); have HB0 := hd (step_b HB0.out b9); clear b9)
              | ((with_reducible refine gd_loadg (ty := 24) (x := .tmp 8) ?_); refine wpList_load_atg rowT_act (r := #[.int .i64 td, .string tt]) (V1.out.two 1 rfl rfl) rfl _ rfl (by rfl) rfl ?_)
              | ((with_reducible refine gd_loadg (ty := 24) (x := .tmp 14) ?_); refine wpList_load_atg rowT_act (r := #[.int .i64 od, .string ot]) (V1.out.two 3 rfl rfl) rfl _ rfl (by rfl) rfl ?_)
              | (go_at_call 61; have g2 := HC2; clear HC2; refine (g2 _).out.mono ?_; clear g2; rintro e9 w2 ⟨rfl, b9⟩; clear l5 l6 l7; have V1 := hd (V1.out.keep b9); have l5 : w2.cell? ⟨w.heap.size, 5, none⟩ = some (.slice K nk ck) := V1.out.cell 5 _ rfl; have l6 : w2.cell? ⟨w.heap.size, 6, none⟩ = some (.int .i64 (1)) := V1.out.cell 6 _ rfl; have l7 : w2.cell? ⟨w.heap.size, 7, none⟩ = some (.string fty) := V1.out.cell 7 _ rfl; have HB := hd (step_b HB.out b9); have HB0 := hd (step_b HB0.out b9); clear b9)
              | (go_at_call 61; refine (HC3 _).out.mono ?_; rintro e9 w3 ⟨rfl, b9⟩; clear l5 l6 l7; have V1 := hd (V1.out.keep b9); have l5 : w3.cell? ⟨w.heap.size, 5, none⟩ = some (.slice K nk ck) := V1.out.cell 5 _ rfl; have l6 : w3.cell? ⟨w.heap.size, 6, none⟩ = some (.int .i64 (1)) := V1.out.cell 6 _ rfl; have l7 : w3.cell? ⟨w.heap.size, 7, none⟩ = some (.string fty) := V1.out.cell 7 _ rfl; have HB := hd (step_b HB.out b9); have HB0 := hd (step_b HB0.out b9); clear b9)
              | (go_at_call 62; refine (HC4 _ HB0.out).out.mono ?_; rintro e9 w4 ⟨rfl, b9⟩; clear l5 l6 l7; have V1 := hd (V1.out.keep b9); have l5 : w4.cell? ⟨w.heap.size, 5, none⟩ = some (.slice K nk ck) := V1.out.cell 5 _ rfl; have l6 : w4.cell? ⟨w.heap.size, 6, none⟩ = some (.int .i64 (1)) := V1.out.cell 6 _ rfl; have l7 : w4.cell? ⟨w.heap.size, 7, none⟩ = some (.string fty) := V1.out.cell 7 _ rfl; have HB := hd (step_b HB.out b9); have HB0 := hd (step_b HB0.out b9); clear b9)
              | (go_at_call 57; refine (HC5 _).out.mono ?_; rintro e9 w5 ⟨rfl, rfl⟩))
            all_goals (go_ret; exact ⟨ret_bool (by have e1 := HE.out; have e2 := HF.out; simp_all), HB.out⟩)
        · have e1 : (fill == 1) = false := by simpa using f1
          rw [if_neg (by omega), if_neg f2] at hF
          have HF := hd hF
          clear hF hem
          have l6 : W0.cell? ⟨w.heap.size, 6, none⟩ = some (.int .i64 (fill)) := V1.out.cell 6 _ rfl
          have l7 : W0.cell? ⟨w.heap.size, 7, none⟩ = some (.string fty) := V1.out.cell 7 _ rfl
          go_enter Try.func40, Try.ntmps40
          go_upto_region 1 with fail
          rw [HW.out]
          go_wp2_with (first
            | (go_at_call 60; refine HC1.out.mono ?_; rintro e9 w1 ⟨rfl, b9⟩; clear l5 l6 l7; have V1 := hd (V1.out.keep b9); have l5 : w1.cell? ⟨w.heap.size, 5, none⟩ = some (.slice K nk ck) := V1.out.cell 5 _ rfl; have l6 : w1.cell? ⟨w.heap.size, 6, none⟩ = some (.int .i64 (fill)) := V1.out.cell 6 _ rfl; have l7 : w1.cell? ⟨w.heap.size, 7, none⟩ = some (.string fty) := V1.out.cell 7 _ rfl; have HB := hd (step_b HB.out b9); have HB0 := hd (step_b HB0.out b9); clear b9)
            | ((with_reducible refine gd_loadg (ty := 24) (x := .tmp 8) ?_); refine wpList_load_atg rowT_act (r := #[.int .i64 td, .string tt]) (V1.out.two 1 rfl rfl) rfl _ rfl (by rfl) rfl ?_)
            | ((with_reducible refine gd_loadg (ty := 24) (x := .tmp 14) ?_); refine wpList_load_atg rowT_act (r := #[.int .i64 od, .string ot]) (V1.out.two 3 rfl rfl) rfl _ rfl (by rfl) rfl ?_)
            | (go_at_call 61; have g2 := HC2; clear HC2; refine (g2 _).out.mono ?_; clear g2; rintro e9 w2 ⟨rfl, b9⟩; clear l5 l6 l7; have V1 := hd (V1.out.keep b9); have l5 : w2.cell? ⟨w.heap.size, 5, none⟩ = some (.slice K nk ck) := V1.out.cell 5 _ rfl; have l6 : w2.cell? ⟨w.heap.size, 6, none⟩ = some (.int .i64 (fill)) := V1.out.cell 6 _ rfl; have l7 : w2.cell? ⟨w.heap.size, 7, none⟩ = some (.string fty) := V1.out.cell 7 _ rfl; have HB := hd (step_b HB.out b9); have HB0 := hd (step_b HB0.out b9); clear b9)
            | (go_at_call 61; refine (HC3 _).out.mono ?_; rintro e9 w3 ⟨rfl, b9⟩; clear l5 l6 l7; have V1 := hd (V1.out.keep b9); have l5 : w3.cell? ⟨w.heap.size, 5, none⟩ = some (.slice K nk ck) := V1.out.cell 5 _ rfl; have l6 : w3.cell? ⟨w.heap.size, 6, none⟩ = some (.int .i64 (fill)) := V1.out.cell 6 _ rfl; have l7 : w3.cell? ⟨w.heap.size, 7, none⟩ = some (.string fty) := V1.out.cell 7 _ rfl; have HB := hd (step_b HB.out b9); have HB0 := hd (step_b HB0.out b9); clear b9)
            | (go_at_call 62; refine (HC4 _ HB0.out).out.mono ?_; rintro e9 w4 ⟨rfl, b9⟩; clear l5 l6 l7; have V1 := hd (V1.out.keep b9); have l5 : w4.cell? ⟨w.heap.size, 5, none⟩ = some (.slice K nk ck) := V1.out.cell 5 _ rfl; have l6 : w4.cell? ⟨w.heap.size, 6, none⟩ = some (.int .i64 (fill)) := V1.out.cell 6 _ rfl; have l7 : w4.cell? ⟨w.heap.size, 7, none⟩ = some (.string fty) := V1.out.cell 7 _ rfl; have HB := hd (step_b HB.out b9); have HB0 := hd (step_b HB0.out b9); clear b9)
            | (go_at_call 57; refine (HC5 _).out.mono ?_; rintro e9 w5 ⟨rfl, rfl⟩))
          all_goals (go_ret; exact ⟨ret_bool (by have e1 := HE.out; have e2 := HF.out; simp_all), HB.out⟩)

end Go.Proofs.Ytegaapeaeffgoaa

namespace Go.Proofs.Ytegaapeaeffgoaa
open Go.RowKit

section
variable {P : Program} {ops : Array Oper} {Q : Exit → Act → World → Prop} {S : World → Prop} {z : Nat → Bool}
/-- Whatever order is picked from here on; S holds behind every operation but those that z names. -/
def wpAnyY (P : Program) (ops : Array Oper) (Q : Exit → Act → World → Prop) (S : World → Prop) (z : Nat → Bool) : Nat → Array Bool → Act → World → Prop
  | 0, listed, a, w => Region.ready .any ops listed = [] ∧ Q .normal a w
  | n + 1, listed, a, w => (Region.ready .any ops listed = [] → Q .normal a w) ∧
      ∀ i ∈ Region.ready .any ops listed, wpOp P ops Q i (fun a' w' => (z i = false → S w') ∧ wpAnyY P ops Q S z n (listed.setIfInBounds i true) a' w') a w
set_option maxRecDepth 4000 in
theorem any_of_Y : ∀ (n : Nat) (listed : Array Bool) (a : Act) (w : World), wpAnyY P ops Q S z n listed a w → wpAny P .any ops Q n listed a w
  | 0, _, _, _, h => h
  | n + 1, _, _, _, h => ⟨h.1, fun i hi => wpOp_mono (fun a' w' h' => any_of_Y n _ a' w' h'.2) (h.2 i hi)⟩
/-- Each of the operations that z names waits for operation i. -/
def waitsY (ops : Array Oper) (z : Nat → Bool) (i : Nat) : Bool := (List.range ops.size).all fun j => !z j || match ops[j]? with
  | some o => o.after.toList.any fun e => Region.binds .any e && e.on == i
  | none => false
set_option maxRecDepth 4000 in
theorem waits_at {i j : Nat} {o : Oper} (h : waitsY ops z i = true) (hj : ops[j]? = some o) (hz : z j = true) : ∃ e ∈ o.after, Region.binds .any e = true ∧ e.on = i := by
  have hl := (Array.getElem?_eq_some_iff.1 hj).1
  have h1 := List.all_eq_true.1 h j (List.mem_range.2 hl)
  rw [hz, hj] at h1
  simp only [Bool.not_true, Bool.false_or] at h1
  obtain ⟨x, hx, hx2⟩ := List.any_eq_true.1 h1
  simp only [Bool.and_eq_true, beq_iff_eq] at hx2
  exact ⟨x, by simpa using hx, hx2.1, hx2.2⟩
set_option maxRecDepth 4000 in
/-- What z waits for, and yields the same in every world that meets S, may be taken first. -/
theorem Y_first {i : Nat} {oi : Oper} {v : Value} (hi : ops[i]? = some oi) (hsel : Region.noSelect ops = true) (hz : waitsY ops z i = true)
    (hQ : ∀ c a w, Q (.panic c) (a.put oi.dst v) w → Q (.panic c) a w) :
    ∀ (n : Nat) (listed : Array Bool) (a : Act) (w : World),
      (∀ j oj, ops[j]? = some oj → j ≠ i → listed.getD j true = false → (∀ e ∈ oj.after, Region.binds .any e = true → e.on ≠ i) → oi.apart ops oj = true) →
      i ∈ Region.ready .any ops listed → YieldsIf P ops S oi v a → S w →
      wpAnyY P ops Q S z n (listed.setIfInBounds i true) (a.put oi.dst v) w → wpAnyY P ops Q S z (n + 1) listed a w := by
  have sel := Region.noSelect_spec hsel
  intro n
  induction n with
  | zero =>
    intro listed a w _ hr hy hS H
    refine ⟨fun h => absurd hr (by rw [h]; simp), fun j hj => ?_⟩
    rcases Classical.em (j = i) with e | e
    · subst e; exact hy.wpOp hi hS ⟨fun _ => hS, H⟩
    · have := ready_mono hj e
      rw [H.1] at this; cases this
  | succ n ih =>
    intro listed a w hfree hr hy hS H
    refine ⟨fun h => absurd hr (by rw [h]; simp), fun j hj => ?_⟩
    rcases Classical.em (j = i) with e | e
    · subst e; exact hy.wpOp hi hS ⟨fun _ => hS, H⟩
    · obtain ⟨hjun, oj, hoj, hall⟩ := mem_ready.1 hj
      have hiun := (mem_ready.1 hr).1
      have hno : ∀ e ∈ oj.after, Region.binds .any e = true → e.on ≠ i := fun x hx hb heq => by
        have h1 := hall x hx hb
        rw [heq] at h1
        rcases Nat.lt_or_ge i listed.size with h' | h'
        · simp [h'] at hiun h1; rw [hiun] at h1; cases h1
        · simp [Array.getElem?_eq_none h'] at h1
      have hjz : z j = false := by
        cases ez : z j with
        | false => rfl
        | true =>
          obtain ⟨x, hx, hx2, hx3⟩ := waits_at hz hoj ez
          exact absurd hx3 (hno x hx hx2)
      have h2 := wpOp_putIf hoj (hfree j oj hoj e hjun hno) (fun cs b => sel i oi cs b hi) (fun cs b => sel j oj cs b hoj) hQ hy (H.2 j (ready_mono hj e))
      refine wpOp_mono (fun a' w' h3 => ⟨h3.2.1, ih (listed.setIfInBounds j true) a' w' (fun k ok hk hki hun hn => hfree k ok hk hki ?_ hn) (ready_mono hr (Ne.symm e)) h3.1 (h3.2.1 hjz) ?_⟩) h2
      · rcases Classical.em (j = k) with ek | ek
        · subst ek; exact hjun
        · rw [getD_set_ne true ek] at hun; exact hun
      · rw [Array.setIfInBounds_comm _ _ e]; exact h3.2.2
set_option maxRecDepth 4000 in
theorem Y_take {i : Nat} {oi : Oper} (v : Value) {n : Nat} {listed : Array Bool} {a : Act} {w : World} (hi : ops[i]? = some oi) (hs : Region.noSelect ops = true) (hz : waitsY ops z i = true) (hf : Region.free .any ops listed i = true) (hr : (Region.ready .any ops listed).contains i = true)
    (hQ : ∀ c a w, Q (.panic c) (a.put oi.dst v) w → Q (.panic c) a w) (hw : Region.wanted oi (yielded ops a.tmps) = true) (hy : ∀ w, S w → (execOp a.eval oi).run P w = .ok (.value v) w) (hS : S w)
    (h : wpAnyY P ops Q S z n (listed.setIfInBounds i true) (a.put oi.dst v) w) : wpAnyY P ops Q S z (n + 1) listed a w :=
  Y_first hi hs hz hQ n listed a w (Region.free_spec hi hf) (by simpa using hr) (.inl ⟨hw, hy⟩) hS h
set_option maxRecDepth 4000 in
/-- Just two may come up. -/
theorem Y_two {i j : Nat} {o p : Oper} {n : Nat} {listed : Array Bool} {a : Act} {w : World} (hr : Region.ready .any ops listed = [i, j]) (hi : ops[i]? = some o) (hj : ops[j]? = some p)
    (h : ∀ K : Act → World → Prop, (∀ a' w', (z i = false → S w') → wpAnyY P ops Q S z n (listed.setIfInBounds i true) a' w' → K a' w') → if Region.wanted o (yielded ops a.tmps) = true then Oper.wp P o a w K Q else False)
    (h' : ∀ K : Act → World → Prop, (∀ a' w', (z j = false → S w') → wpAnyY P ops Q S z n (listed.setIfInBounds j true) a' w' → K a' w') → if Region.wanted p (yielded ops a.tmps) = true then Oper.wp P p a w K Q else False) : wpAnyY P ops Q S z (n + 1) listed a w := by
  refine ⟨fun e => absurd (e.symm.trans hr) (by simp), fun k hk => ?_⟩
  rw [hr] at hk
  rcases List.mem_cons.1 hk with rfl | hk
  · have h1 := h (fun a' w' => (z k = false → S w') ∧ wpAnyY P ops Q S z n (listed.setIfInBounds k true) a' w') (fun a' w' h1 h2 => ⟨h1, h2⟩)
    unfold wpOp
    simp only [hi]
    split
    · rename_i hw
      rw [if_pos hw] at h1
      exact .inl h1
    · rename_i hw
      rw [if_neg hw] at h1
      exact h1.elim
  · rw [List.mem_singleton] at hk
    subst hk
    have h1 := h' (fun a' w' => (z k = false → S w') ∧ wpAnyY P ops Q S z n (listed.setIfInBounds k true) a' w') (fun a' w' h1 h2 => ⟨h1, h2⟩)
    unfold wpOp
    simp only [hj]
    split
    · rename_i hw
      rw [if_pos hw] at h1
      exact .inl h1
    · rename_i hw
      rw [if_neg hw] at h1
      exact h1.elim
set_option maxRecDepth 4000 in
/-- Just one may come up. -/
theorem Y_one {i : Nat} {o : Oper} {n : Nat} {listed : Array Bool} {a : Act} {w : World} (hr : Region.ready .any ops listed = [i]) (hi : ops[i]? = some o)
    (h : ∀ K : Act → World → Prop, (∀ a' w', (z i = false → S w') → wpAnyY P ops Q S z n (listed.setIfInBounds i true) a' w' → K a' w') → if Region.wanted o (yielded ops a.tmps) = true then Oper.wp P o a w K Q else False) : wpAnyY P ops Q S z (n + 1) listed a w := by
  refine ⟨fun e => absurd (e.symm.trans hr) (by simp), fun j hj => ?_⟩
  rw [hr, List.mem_singleton] at hj
  subst hj
  have h1 := h (fun a' w' => (z j = false → S w') ∧ wpAnyY P ops Q S z n (listed.setIfInBounds j true) a' w') (fun a' w' h1 h2 => ⟨h1, h2⟩)
  unfold wpOp
  simp only [hi]
  split
  · rename_i hw
    rw [if_pos hw] at h1
    exact .inl h1
  · rename_i hw
    rw [if_neg hw] at h1
    exact h1.elim
set_option maxRecDepth 4000 in
theorem Y_done {n : Nat} {listed : Array Bool} {a : Act} {w : World} (hr : Region.ready .any ops listed = []) (h : Q .normal a w) : wpAnyY P ops Q S z n listed a w := by
  cases n with
  | zero => exact ⟨hr, h⟩
  | succ n => exact ⟨fun _ => h, by rw [hr]; simp⟩
set_option maxRecDepth 4000 in
theorem Y_start {id : Nat} {a : Act} {w : World} (hm : P.follows .mixedOrders = true) (h : wpAnyY P ops Q S z ops.size (Array.replicate ops.size false) a w.drew) : (Code.region id ops true).wp P Q a w :=
  wp_region_any hm (any_of_Y _ _ _ _ h)
end

end Go.Proofs.Ytegaapeaeffgoaa
