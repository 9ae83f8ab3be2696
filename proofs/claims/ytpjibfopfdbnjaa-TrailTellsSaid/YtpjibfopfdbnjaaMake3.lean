/- The document's Next and Back; Common, and the document's. -/
import Derived.Test.YtpjibfopfdbnjaaMake2
namespace Go.Proofs.Ytpjibfopfdbnjaa
open Go.RowKit
open Go.WideShapes (add_plain)

set_option maxHeartbeats 2000000 in
theorem rnext_any (A : Option Addr) (l : List Int) (n c : Nat) (w : World) (hn : l.length = n) (hl : n ≤ 1000) (hW : ∀ k, k < l.length → iAt l k ≤ 9223372036854775807 ∧ -9223372036854775808 ≤ iAt l k) (hp : IL w w.heap.size A l) :
    Calls Try.prog 24 #[.slice A n c] w (NewE w (nextL l)) := by
  rcases n with _ | k
  · have HF := hd (show nextL l = ([], 6) by unfold nextL; rw [if_pos hn])
    clear hn hp hW
    go_enter Try.func24, Try.ntmps24
    go_wp2
    go_ret2
    exact newE_ret HF.out (OwnI.nil _ _) (Below.refl _ _)
  · have hL := last_eq l k hn
    have hw := hW k (by omega)
    have HC := hd (copy_any A l (k + 1) c w hn (by omega) hp)
    have HN := hd hn
    by_cases hm : iAt l k = 9223372036854775807
    · have HF := hd (show nextL l = ([], 8) by unfold nextL; rw [if_neg (by omega), if_pos (by omega)])
      have h1 : (iAt l k == 9223372036854775807) = true := by simp [hm]
      clear hn hp hW hL hm
      go_enter Try.func24, Try.ntmps24
      go_wp2_with fail
      refine HC.out.mono ?_
      rintro e w1 ⟨v1, rfl, ho, hb⟩
      obtain ⟨g, c1, rfl, q1, q2, q3, q4, q5, q6, q7⟩ := ho.form (by have := HN.out; omega)
      have hc := q5 k (by have := HN.out; omega)
      rw [HN.out] at q1
      rw [HN.out]
      clear ho q5 q6 q7
      go_wp2
      go_ret2
      exact newE_ret HF.out (OwnI.nil _ _) hb
    · have HF := hd (show nextL l = (l.set k (iAt l k + 1), 0) by unfold nextL; rw [if_neg (by omega), hL, if_neg hm, sib_eq l k hn])
      have h1 : (iAt l k == 9223372036854775807) = false := by simp [hm]
      have h2 : iAt l k + 1 ≤ 9223372036854775807 := by omega
      clear hn hp hW hL hm
      go_enter Try.func24, Try.ntmps24
      go_wp2_with fail
      refine HC.out.mono ?_
      rintro e w1 ⟨v1, rfl, ho, hb⟩
      obtain ⟨g, c1, rfl, q1, q2, q3, q4, q5, q6, q7⟩ := ho.form (by have := HN.out; omega)
      have hc := q5 k (by have := HN.out; omega)
      have hf := q6 k
      have H7 := hd (q7 k (iAt l k + 1))
      rw [HN.out] at q1 H7
      rw [HN.out]
      clear ho q5 q6 q7
      go_wp2
      go_ret2
      exact newE_ret HF.out H7.out (hb.setCell q3 _)
set_option maxHeartbeats 2000000 in
theorem rback_any (A : Option Addr) (l : List Int) (n c : Nat) (w : World) (hn : l.length = n) (hl : n ≤ 1000) (hW : ∀ k, k < l.length → iAt l k ≤ 9223372036854775807 ∧ -9223372036854775808 ≤ iAt l k) (hp : IL w w.heap.size A l) :
    Calls Try.prog 26 #[.slice A n c] w (NewE w (backL l)) := by
  rcases n with _ | k
  · have HF := hd (show backL l = ([], 6) by unfold backL; rw [if_pos hn])
    clear hn hp hW
    go_enter Try.func26, Try.ntmps26
    go_wp2
    go_ret2
    exact newE_ret HF.out (OwnI.nil _ _) (Below.refl _ _)
  · have hL := last_eq l k hn
    have hw := hW k (by omega)
    have HC := hd (copy_any A l (k + 1) c w hn (by omega) hp)
    have HN := hd hn
    by_cases hm : iAt l k ≤ 0
    · have HF := hd (show backL l = ([], 8) by unfold backL; rw [if_neg (by omega), if_pos (by omega)])
      have h1 : decide (iAt l k ≤ 0) = true := by simp [hm]
      clear hn hp hW hL hm
      go_enter Try.func26, Try.ntmps26
      go_wp2_with fail
      refine HC.out.mono ?_
      rintro e w1 ⟨v1, rfl, ho, hb⟩
      obtain ⟨g, c1, rfl, q1, q2, q3, q4, q5, q6, q7⟩ := ho.form (by have := HN.out; omega)
      have hc := q5 k (by have := HN.out; omega)
      rw [HN.out] at q1
      rw [HN.out]
      clear ho q5 q6 q7
      go_wp2
      go_ret2
      exact newE_ret HF.out (OwnI.nil _ _) hb
    · have HF := hd (show backL l = (l.set k (iAt l k - 1), 0) by unfold backL; rw [if_neg (by omega), hL, if_neg hm, sib_eq l k hn])
      have h1 : decide (iAt l k ≤ 0) = false := by simp [hm]
      have h2 : -9223372036854775808 ≤ iAt l k - 1 := by omega
      clear hn hp hW hL hm
      go_enter Try.func26, Try.ntmps26
      go_wp2_with fail
      refine HC.out.mono ?_
      rintro e w1 ⟨v1, rfl, ho, hb⟩
      obtain ⟨g, c1, rfl, q1, q2, q3, q4, q5, q6, q7⟩ := ho.form (by have := HN.out; omega)
      have hc := q5 k (by have := HN.out; omega)
      have hf := q6 k
      have H7 := hd (q7 k (iAt l k - 1))
      rw [HN.out] at q1 H7
      rw [HN.out]
      clear ho q5 q6 q7
      go_wp2
      go_ret2
      exact newE_ret HF.out H7.out (hb.setCell q3 _)

def commonL (l m : List Int) : List Int := l.take (alikeN l m)

set_option maxHeartbeats 1000000 in
theorem common_any (A B : Option Addr) (l m : List Int) (c d : Nat) (w : World) (hl : l.length ≤ 1000) (hm : m.length ≤ 1000) (hc : l.length ≤ c) (hp : IL w w.heap.size A l) (hq : IL w w.heap.size B m) :
    Calls Try.prog 27 #[.slice A l.length c, .slice B m.length d] w (NewI w (commonL l m)) := by
  have HA := hd (alike_any A B l m c d w (by omega) (by omega) hp hq)
  have hN := alikeN_le l m
  have HC : Hid (∀ q, Calls Try.prog 34 #[.slice A (alikeN l m) c] (w.drewN q) (NewI w (commonL l m))) := hd (fun q => by
    refine (fresh_any A (commonL l m) (alikeN l m) c (w.drewN q) (by unfold commonL; simp; omega) (by omega) (hp.take _)).mono ?_
    rintro e w' ⟨v, he, ho, hb⟩
    exact ⟨v, he, ho, (below_drewN (Below.refl _ _) q).trans hb⟩)
  clear hp hq
  obtain ⟨K, hK⟩ : ∃ K, K = alikeN l m := ⟨_, rfl⟩
  rw [← hK] at HA HC hN
  clear hK
  go_enter Try.func27, Try.ntmps27
  go_wp2_with (go_at_call 32; refine HA.out.mono ?_; rintro e w' ⟨rfl, kd, rfl⟩)
  refine (HC.out kd).mono ?_
  rintro e w1 ⟨v1, rfl, ho, hb⟩
  go_wp2
  go_ret
  exact ⟨v1, rfl, ho, hb⟩

/-- One number appended to a row of the call's own. -/
theorem wpList_append_1 (W : World) {ops : Array Oper} {rest : List Oper} {o : Oper} {a : Act} {Q : Exit → Act → World → Prop} (hgd : o.guard = none) (s x : Operand)
    (ho : o.op = .call { callee := .builtin .append, args := #[s, x], argTypes := #[22, 22] })
    (b : Nat) (v : Value) (k : List Int) (y : Int) (hs : a.eval s = v) (hO : OwnI W b v k) (g : Nat) (hg : g = W.heap.size) (hx : a.eval x = .slice (some ⟨g, 0, none⟩) 1 1) (hlen : k.length ≤ 5000) (hb : b ≤ W.heap.size)
    (hK : ∀ v' w', OwnI w' b v' (k ++ [y]) → Grew b v W w' → wpList Try.prog ops Q rest (a.put o.dst v') w') :
    wpList Try.prog ops Q (o :: rest) a (W.alloc (.cells #[.int .i64 y] 3)) := by
  subst hg
  refine wpList_append_L (W.alloc (.cells #[.int .i64 y] 3)) hgd s x ho b v k [y] hs (hO.below ((Below.refl _ _).alloc (Nat.le_refl _) _)) (some ⟨W.heap.size, 0, none⟩) 1 1 (W.heap.size + 1) hx rfl (IL_new W 3 [y]) (by simp; omega) (by simp; omega) ?_
  intro v' w' h1 h2
  refine hK v' w' h1 ⟨by have := h2.size; simp at this; omega, fun B w0 hB hBW h => h2.below B w0 hB (by simp; omega) (h.alloc hBW _), fun p hp hne => ?_⟩
  rw [h2.cell p (by simp; omega) hne]
  exact World.cell?_alloc_lt _ _ p hp

theorem take_more (l : List Int) (n : Nat) (h : n < l.length) : l.take n ++ [iAt l n] = l.take (n + 1) := by
  rw [List.take_succ_eq_append_getElem h, iAt_eq l n h]

set_option maxHeartbeats 2000000 in
theorem rcommon_any (A B : Option Addr) (l m : List Int) (c d : Nat) (w : World) (hl : l.length ≤ 1000) (hm : m.length ≤ 1000) (hp : IL w w.heap.size A l) (hq : IL w w.heap.size B m) :
    Calls Try.prog 29 #[.slice A l.length c, .slice B m.length d] w (NewI w (commonL l m)) := by
  have HP := hd hp
  have HQ := hd hq
  clear hp hq
  go_enter Try.func29, Try.ntmps29
  go_wp2
  go_loopw [5, 9] (fun v i wr => ∃ n : Nat, n ≤ l.length ∧ n ≤ m.length ∧ i = .int .i64 n ∧ OwnI wr w.heap.size v (l.take n) ∧ Below w.heap.size w wr ∧ Hid (∀ j, j < n → iAt l j = iAt m j)) (fun _ i _ => l.length - (intOf i).toNat)
  case atStart => exact ⟨0, Nat.zero_le _, Nat.zero_le _, rfl, by rw [List.take_zero]; exact OwnI.nil _ _, Below.refl _ _, fun j hj => absurd hj (Nat.not_lt_zero _)⟩
  case round =>
    obtain ⟨n, hn1, hn2, rfl, ho, hb, HA⟩ := hrel
    by_cases h1 : n < l.length
    · by_cases h2 : n < m.length
      · obtain ⟨b1, o1, rfl, hl1, c1⟩ := (HP.out.below hb).at_ h1
        obtain ⟨b2, o2, rfl, hl2, c2⟩ := (HQ.out.below hb).at_ h2
        have he : ((n : Int) == (m.length : Int)) = false := by simp; omega
        by_cases hs : iAt l n = iAt m n
        · have hx : (iAt l n != iAt m n) = false := by simp [hs]
          have HB := one_more (p := fun j => iAt l j = iAt m j) HA hs
          have HT := hd (take_more l n h1)
          have HLn : Hid ((l.take n).length ≤ 5000) := hd (by simp; omega)
          clear HA hs
          go_wp2_with fail
          go_quiet (fail)
          go_wp2_with (at_builtin; refine wpList_append_1 _ rfl (.tmp 27) (.tmp 32) rfl w.heap.size u5 (l.take n) (iAt l n) rfl (ho.below (below_drewN (Below.refl _ _) _)) _ rfl rfl HLn.out (by have := hb.size; simpa using this) ?_; intro v' w1 ho1 hg1)
          rw [HT.out] at ho1
          have hb1 := hg1.below w.heap.size w (Nat.le_refl _) (by have := hb.size; simpa using this) (below_drewN hb _)
          go_roundw
          case rel => exact ⟨n + 1, by omega, by omega, by go_num, ho1, hb1, HB⟩
          case measure => simp [intOf]; omega
        · have hx : (iAt l n != iAt m n) = true := by simp [hs]
          have HE := hd (alikeN_of l m n hn1 hn2 HA.out (fun _ _ => hs))
          clear HA hs
          go_wp2_with fail
          go_quiet (fail)
          go_wp2
          go_ret
          exact ⟨u5, rfl, by unfold commonL; rw [HE.out]; exact ho.below (below_drewN (Below.refl _ _) _), below_drewN hb _⟩
      · have he : ((n : Int) == (m.length : Int)) = true := by simp; omega
        have HE := hd (alikeN_of l m n hn1 hn2 HA.out (fun _ _ => by omega))
        clear HA
        go_wp2_with fail
        go_quiet (fail)
        go_wp2
        go_ret
        exact ⟨u5, rfl, by unfold commonL; rw [HE.out]; exact ho.below (below_drewN (Below.refl _ _) _), below_drewN hb _⟩
    · have HE := hd (alikeN_of l m n hn1 hn2 HA.out (fun _ _ => by omega))
      clear HA
      go_wp2
      go_ret
      exact ⟨u5, rfl, by unfold commonL; rw [HE.out]; exact ho, hb⟩

end Go.Proofs.Ytpjibfopfdbnjaa
