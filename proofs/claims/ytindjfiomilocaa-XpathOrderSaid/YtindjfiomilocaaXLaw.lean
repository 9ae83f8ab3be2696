/- The chapter's example; whether paths are short. -/
import Derived.Test.YtindjfiomilocaaXMove5
namespace Go.Proofs.Ytindjfiomilocaa
open Go.RowKit

/-- The row of slices at block g. -/
def SlRow (w : World) (g : Nat) (P : List (Option Addr × Nat × Nat)) : Prop := ∀ j q, P[j]? = some q → w.cell? ⟨g, j, none⟩ = some (.slice q.1 q.2.1 q.2.2)
def shortB (P : List (Option Addr × Nat × Nat)) : Bool := P.all fun q => decide (q.2.1 ≤ 60)
set_option maxRecDepth 4000 in
theorem SlRow.below {w w' : World} {g : Nat} {P : List (Option Addr × Nat × Nat)} (h : SlRow w g P) (hg : g < w.heap.size) (hb : Below w.heap.size w w') : SlRow w' g P := fun j q hq => (hb.cell (show g < _ from hg)).trans (h j q hq)

set_option maxRecDepth 100000 in
set_option maxHeartbeats 4000000 in
theorem short_any (g : Nat) (P : List (Option Addr × Nat × Nat)) (n : Nat) (w : World) (x0 x3 r4 r5 r6 r7 r8 r9 r10 r11 r12 r13 r14 r15 r16 r17 r18 r19 r20 : Value) (Q T : Option Addr) (lq cq lt ct : Nat) (hn : P.length = n) (hl : n ≤ 1000) (hg : g < w.heap.size) (hP : SlRow w g P) (hm : ∀ q ∈ P, q.2.1 ≤ 9223372036854775807) (hq : lq ≤ 9223372036854775807) (ht : lt ≤ 9223372036854775807) :
    Calls Try.prog 10 #[.agg #[x0, .slice Q lq cq, .slice T lt ct, x3, r4, r5, r6, r7, r8, r9, r10, r11, r12, r13, r14, r15, r16, r17, r18, r19, r20], .slice (some ⟨g, 0, none⟩) n n] w (Still (.bool (shortB P && decide (lq ≤ 60) && decide (lt ≤ 60))) w) := by
  obtain ⟨W0, hW⟩ : ∃ W0, W0 = w.alloc (.cells #[x0, .slice Q lq cq, .slice T lt ct, x3, r4, r5, r6, r7, r8, r9, r10, r11, r12, r13, r14, r15, r16, r17, r18, r19, r20] 35) := ⟨_, rfl⟩
  have hb0 : Below w.heap.size w W0 := hW ▸ new_below w _
  have e0 : W0.heap[w.heap.size]? = some (.cells #[x0, .slice Q lq cq, .slice T lt ct, x3, r4, r5, r6, r7, r8, r9, r10, r11, r12, r13, r14, r15, r16, r17, r18, r19, r20] 35 (0, 0)) := hW ▸ heap_alloc_new _ _
  obtain ⟨_, y1, y2, _⟩ := op_cells e0
  have HB0 := hd hb0
  have HP := hd (hP.below hg hb0)
  have HN := hd hn
  have HM := hd hm
  have HW := hd hW
  clear hP hn hm hg hW hb0 e0
  go_enter Try.func10, Try.ntmps10
  go_upto_region 1 with fail
  rw [← HW.out]
  go_wp2
  go_loopw [9] (fun i wr => ∃ k : Nat, k ≤ n ∧ i = .int .i64 k ∧ wr = W0 ∧ Hid (∀ j q, j < k → P[j]? = some q → q.2.1 ≤ 60)) (fun i _ => n - (intOf i).toNat)
  case atStart => exact ⟨0, Nat.zero_le _, rfl, rfl, fun j q hj => absurd hj (Nat.not_lt_zero _)⟩
  case round =>
    obtain ⟨k, hk, rfl, rfl, HA⟩ := hrel
    by_cases hlt : k < n
    · obtain ⟨q, hq⟩ : ∃ q, P[k]? = some q := ⟨_, List.getElem?_eq_getElem (by rw [HN.out]; exact hlt)⟩
      have c0 := HP.out k q hq
      obtain ⟨A, m, c⟩ := q
      have hml : m ≤ 9223372036854775807 := HM.out _ (List.mem_of_getElem? hq)
      have HQ := hd hq
      simp only at c0
      clear hq
      by_cases h5 : m ≤ 60
      · have HA2 := hd (show ∀ j q, j < k + 1 → P[j]? = some q → q.2.1 ≤ 60 from fun j q hj hq => by
          rcases (show j < k ∨ j = k by omega) with h | rfl
          · exact HA.out j q h hq
          · rw [HQ.out] at hq; injection hq with hq; rw [← hq]; exact h5)
        go_wp2
        go_roundw
        case rel => exact ⟨k + 1, by omega, by first | go_num | rfl, (by first | rfl | trivial), HA2⟩
        case measure => first | (simp [intOf]; done) | (simp [intOf]; omega)
      · have HF := hd (show (shortB P && decide (lq ≤ 60) && decide (lt ≤ 60)) = false by
          have : shortB P = false := by
            unfold shortB
            rw [List.all_eq_false]
            exact ⟨_, List.mem_of_getElem? HQ.out, by simp; omega⟩
          rw [this]; rfl)
        go_wp2
        go_ret
        exact ⟨ret_bool HF.out.symm, HB0.out⟩
    · have HF := hd (show shortB P = true by
        unfold shortB
        rw [List.all_eq_true]
        intro q hq
        obtain ⟨j, hj, e⟩ := List.getElem_of_mem hq
        exact decide_eq_true (HA.out j q (by rw [HN.out] at hj; omega) (by rw [List.getElem?_eq_getElem hj, e])))
      by_cases h1 : lq ≤ 60
      · by_cases h2 : lt ≤ 60
        · go_wp2
          go_ret
          exact ⟨ret_bool (by rw [HF.out, decide_eq_true h1, decide_eq_true h2]; first | rfl | (simp; omega)), HB0.out⟩
        · have h2' : decide (lt ≤ 60) = false := decide_eq_false h2
          have H2 := hd h2
          clear h2
          go_wp2
          go_ret
          exact ⟨ret_bool (by rw [HF.out, decide_eq_true h1, decide_eq_false H2.out]; have h9 := H2.out; first | rfl | (simp; omega)), HB0.out⟩
      · have h1' : decide (lq ≤ 60) = false := decide_eq_false h1
        have h1'' : decide ((lq : Int) ≤ 60) = false := decide_eq_false (by omega)
        have H1 := hd h1
        have h1x : 60 < lq := by omega
        clear h1
        go_wp2
        go_ret
        exact ⟨ret_bool (by rw [HF.out, decide_eq_false H1.out]; have h9 := H1.out; first | rfl | (simp; omega) | simp), HB0.out⟩
set_option maxRecDepth 4000 in
theorem short_1 {W : World} {x0 x3 r4 r5 r6 r7 r8 r9 r10 r11 r12 r13 r14 r15 r16 r17 r18 r19 r20 : Value} {Q T A : Option Addr} {lq cq lt ct lA cA : Nat} {t : TypeId} {b : Bool} (hq : lq ≤ 9223372036854775807) (ht : lt ≤ 9223372036854775807) (hA : lA ≤ 9223372036854775807) (hb : (decide (lA ≤ 60) && decide (lq ≤ 60) && decide (lt ≤ 60)) = b) :
    Calls Try.prog 10 #[.agg #[x0, .slice Q lq cq, .slice T lt ct, x3, r4, r5, r6, r7, r8, r9, r10, r11, r12, r13, r14, r15, r16, r17, r18, r19, r20], .slice (some ⟨W.heap.size, 0, none⟩) 1 1] (W.alloc (.cells #[.slice A lA cA] t)) (Still (.bool b) W) := by
  subst hb
  have h := short_any W.heap.size [(A, lA, cA)] 1 (W.alloc (.cells #[.slice A lA cA] t)) x0 x3 r4 r5 r6 r7 r8 r9 r10 r11 r12 r13 r14 r15 r16 r17 r18 r19 r20 Q T lq cq lt ct rfl (by omega) (by simp) (fun j q hj => ?_) (fun q hq => ?_) hq ht
  · simp only [shortB, List.all_cons, List.all_nil, Bool.and_true] at h
    exact h.mono fun e w' ⟨he, hb⟩ => ⟨by simp only [he, Bool.and_assoc], (new_below W _).trans (hb.mono (new_below W _).size)⟩
  · rw [World.cell?_alloc_at _ _ _ _ rfl]
    match j, hj with
    | 0, hj => simp at hj; subst hj; rfl
    | j + 1, hj => simp at hj
  · simp at hq
    rcases hq with rfl
    all_goals (simp; omega)
set_option maxRecDepth 4000 in
theorem short_2 {W : World} {x0 x3 r4 r5 r6 r7 r8 r9 r10 r11 r12 r13 r14 r15 r16 r17 r18 r19 r20 : Value} {Q T A B : Option Addr} {lq cq lt ct lA cA lB cB : Nat} {t : TypeId} {b : Bool} (hq : lq ≤ 9223372036854775807) (ht : lt ≤ 9223372036854775807) (hA : lA ≤ 9223372036854775807) (hB : lB ≤ 9223372036854775807) (hb : (decide (lA ≤ 60) && decide (lB ≤ 60) && decide (lq ≤ 60) && decide (lt ≤ 60)) = b) :
    Calls Try.prog 10 #[.agg #[x0, .slice Q lq cq, .slice T lt ct, x3, r4, r5, r6, r7, r8, r9, r10, r11, r12, r13, r14, r15, r16, r17, r18, r19, r20], .slice (some ⟨W.heap.size, 0, none⟩) 2 2] (W.alloc (.cells #[.slice A lA cA, .slice B lB cB] t)) (Still (.bool b) W) := by
  subst hb
  have h := short_any W.heap.size [(A, lA, cA), (B, lB, cB)] 2 (W.alloc (.cells #[.slice A lA cA, .slice B lB cB] t)) x0 x3 r4 r5 r6 r7 r8 r9 r10 r11 r12 r13 r14 r15 r16 r17 r18 r19 r20 Q T lq cq lt ct rfl (by omega) (by simp) (fun j q hj => ?_) (fun q hq => ?_) hq ht
  · simp only [shortB, List.all_cons, List.all_nil, Bool.and_true] at h
    exact h.mono fun e w' ⟨he, hb⟩ => ⟨by simp only [he, Bool.and_assoc], (new_below W _).trans (hb.mono (new_below W _).size)⟩
  · rw [World.cell?_alloc_at _ _ _ _ rfl]
    match j, hj with
    | 0, hj => simp at hj; subst hj; rfl
    | 1, hj => simp at hj; subst hj; rfl
    | j + 2, hj => simp at hj
  · simp at hq
    rcases hq with rfl | rfl
    all_goals (simp; omega)
set_option maxRecDepth 4000 in
theorem short_3 {W : World} {x0 x3 r4 r5 r6 r7 r8 r9 r10 r11 r12 r13 r14 r15 r16 r17 r18 r19 r20 : Value} {Q T A B C : Option Addr} {lq cq lt ct lA cA lB cB lC cC : Nat} {t : TypeId} {b : Bool} (hq : lq ≤ 9223372036854775807) (ht : lt ≤ 9223372036854775807) (hA : lA ≤ 9223372036854775807) (hB : lB ≤ 9223372036854775807) (hC : lC ≤ 9223372036854775807) (hb : (decide (lA ≤ 60) && decide (lB ≤ 60) && decide (lC ≤ 60) && decide (lq ≤ 60) && decide (lt ≤ 60)) = b) :
    Calls Try.prog 10 #[.agg #[x0, .slice Q lq cq, .slice T lt ct, x3, r4, r5, r6, r7, r8, r9, r10, r11, r12, r13, r14, r15, r16, r17, r18, r19, r20], .slice (some ⟨W.heap.size, 0, none⟩) 3 3] (W.alloc (.cells #[.slice A lA cA, .slice B lB cB, .slice C lC cC] t)) (Still (.bool b) W) := by
  subst hb
  have h := short_any W.heap.size [(A, lA, cA), (B, lB, cB), (C, lC, cC)] 3 (W.alloc (.cells #[.slice A lA cA, .slice B lB cB, .slice C lC cC] t)) x0 x3 r4 r5 r6 r7 r8 r9 r10 r11 r12 r13 r14 r15 r16 r17 r18 r19 r20 Q T lq cq lt ct rfl (by omega) (by simp) (fun j q hj => ?_) (fun q hq => ?_) hq ht
  · simp only [shortB, List.all_cons, List.all_nil, Bool.and_true] at h
    exact h.mono fun e w' ⟨he, hb⟩ => ⟨by simp only [he, Bool.and_assoc], (new_below W _).trans (hb.mono (new_below W _).size)⟩
  · rw [World.cell?_alloc_at _ _ _ _ rfl]
    match j, hj with
    | 0, hj => simp at hj; subst hj; rfl
    | 1, hj => simp at hj; subst hj; rfl
    | 2, hj => simp at hj; subst hj; rfl
    | j + 3, hj => simp at hj
  · simp at hq
    rcases hq with rfl | rfl | rfl
    all_goals (simp; omega)

set_option maxRecDepth 4000 in
theorem next_at {W : World} {u : Value} {l r : List Int} {e : Int} (hp : XA W u l) (hb : ∀ k, k < l.length → 0 ≤ iAt l k ∧ iAt l k ≤ 1048576) (hr : nextL l = (r, e)) : Calls Try.prog 18 #[u] W (NewPE W (r, e)) := by
  obtain ⟨A, n, c, rfl, h1, h2, h4, h3⟩ := hp
  rw [← hr]
  exact next_any A l n c W h1 h2 (fun k hk => by have := hb k hk; omega) h3

set_option maxRecDepth 4000 in
theorem ex_move : moveL 1 [0, 1] [] 0 [0, 1, 5] = ([0, 2, 5], true) := by decide
set_option maxRecDepth 100000 in
set_option maxHeartbeats 4000000 in
theorem live8_any (w : World) : Calls Try.prog 9 #[] w (Still (.bool true) w) := by
  have HM := hd (show Calls Try.prog 12 #[.slice (some ⟨w.heap.size, 0, none⟩) 3 3, .agg #[.int .i64 1, .slice (some ⟨w.heap.size + 1, 0, none⟩) 2 2, .slice none 0 0, .int .i64 0, .bool false, .slice none 0 0, .slice none 0 0, .slice none 0 0, .slice none 0 0, .slice none 0 0, .slice none 0 0, .bool false, .slice none 0 0, .int .i64 0, .slice none 0 0, .int .i64 0, .bool false, .slice none 0 0, .int .i64 0, .slice none 0 0, .int .i64 0]] ((w.alloc (.cells #[.int .i64 0, .int .i64 1, .int .i64 5] 3)).alloc (.cells #[.int .i64 0, .int .i64 1] 3)) (NewPB w ([0, 2, 5], true)) from by
    have h1 := (xa_three w 0 1 5 3).later (new_below _ (.cells #[.int .i64 0, .int .i64 1] 3))
    have h2 := xa_two (w.alloc (.cells #[.int .i64 0, .int .i64 1, .int .i64 5] 3)) 0 1 3
    rw [show (w.alloc (.cells #[Value.int .i64 0, .int .i64 1, .int .i64 5] 3)).heap.size = w.heap.size + 1 by simp] at h2
    exact (move_at h1 h2 (xa_nil _ _) ex_move).mono fun _ _ h => newPB_old h rfl ((new_below w _).alloc (by simp) _))
  go_enter Try.func9, Try.ntmps9
  go_wp2_with (first
    | (go_at_call 12; refine Calls.mono HM.out ?_; rintro e w9 ⟨v9, rfl, ho, b9⟩; have HX := hd (XA.own ho (by simp)); have HB := hd b9; clear ho b9)
    | (go_at_call 14; refine Calls.mono (rsame_at (b := true) (HX.out.later (new_below _ _)) (xa_three _ _ _ _ _) (by decide)) ?_; rintro e w9 ⟨rfl, b9⟩; have HB := hd (step_b HB.out ((new_below _ _).trans (b9.mono (new_below _ _).size))); clear b9))
  go_ret
  exact ⟨rfl, HB.out⟩

end Go.Proofs.Ytindjfiomilocaa
