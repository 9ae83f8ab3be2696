/- left and Few: how many more nodes, runes and properties there might be, as ints tell it. -/
import Derived.Test.YtknkclbjocfhiaaDoorNRSame
namespace Go.Proofs.YtknkclbjocfhiaaDoor
open Go.RowKit

/-- What a property takes; what a list takes; what a tree leaves. -/
def bigP (p : Pr) : Int := (p.1.size : Int) / 64 + (p.2.size : Int) / 64
def propsW (m : Int) (l : List Pr) : Int := l.foldl (fun m p => wrap64 (m - bigP p)) m
mutual
/-- How many more there might be behind a tree, and behind trees. -/
def leftT : Int → NT → Int
  | m, .mk _ ps tx ks => if propsW (wrap64 (m - (1 + tx.length + ps.length))) ps < 0 then -1 else leftK (propsW (wrap64 (m - (1 + tx.length + ps.length))) ps) ks
def leftK : Int → List NT → Int
  | m, [] => m
  | m, k :: r => if leftT m k < 0 then -1 else leftK (leftT m k) r
end
set_option maxRecDepth 4000 in
theorem propsW_take {l : List Pr} {k : Nat} {p : Pr} (m : Int) (h : l[k]? = some p) : propsW m (l.take (k + 1)) = wrap64 (propsW m (l.take k) - bigP p) := by
  unfold propsW; rw [take_one h, List.foldl_append]; rfl
set_option maxRecDepth 4000 in
theorem prAt_get {l : List Pr} {k : Nat} (h : k < l.length) : l[k]? = some (prAt l k) := by
  rw [prAt_eq l k h]; exact List.getElem?_eq_getElem h
def In64 (a : Int) : Prop := -9223372036854775808 ≤ a ∧ a ≤ 9223372036854775807
set_option maxRecDepth 4000 in
theorem propsW_in (l : List Pr) : ∀ m, In64 m → In64 (propsW m l) := by
  induction l with
  | nil => intro m h; exact h
  | cons p r ih => intro m _; exact ih _ (wrap_in _)
set_option maxRecDepth 4000 in
mutual
theorem leftT_in : ∀ (n : NT) (m : Int), In64 (leftT m n)
  | .mk _ ps tx ks, m => by
    rw [leftT]
    split
    · unfold In64; omega
    · exact leftK_in ks _ (propsW_in ps _ (wrap_in _))
theorem leftK_in : ∀ (l : List NT) (m : Int), In64 m → In64 (leftK m l)
  | [], m, h => by rw [leftK]; exact h
  | k :: r, m, h => by
    rw [leftK]
    split
    · unfold In64; omega
    · exact leftK_in r _ (leftT_in k m)
end
set_option maxRecDepth 4000 in
theorem leftK_step {ks : List NT} {k : Nat} {n : NT} {m y : Int} (h : ks[k]? = some n) (hy : leftT m n = y) (h0 : ¬ y < 0) : leftK m (ks.drop k) = leftK y (ks.drop (k + 1)) := by
  subst hy; rw [drop_one h, leftK, if_neg h0]
set_option maxRecDepth 4000 in
theorem leftK_stop {ks : List NT} {k : Nat} {n : NT} {m y : Int} (h : ks[k]? = some n) (hy : leftT m n = y) (h0 : y < 0) : leftK m (ks.drop k) = -1 := by
  subst hy; rw [drop_one h, leftK, if_pos h0]
set_option maxRecDepth 4000 in
theorem leftK_end {ks : List NT} {k : Nat} {m : Int} (h : ks.length ≤ k) : leftK m (ks.drop k) = m := by
  rw [List.drop_eq_nil_of_le h]; rfl

set_option maxRecDepth 4000 in
set_option maxHeartbeats 8000000 in
theorem left_any : ∀ (d : Nat) (w : World) (v : Value) (n : NT) (m : Int), In64 m → NodeAt d w w.heap.size v n →
      Calls Tryd.prog 23 #[v, .int .i64 m] w (Still (.int .i64 (leftT m n)) w) := by
  intro d
  induction d with
  | zero => intro w v n m _ h; exact h.elim
  | succ d ih =>
    intro w v n m hm hn
    obtain ⟨d1, lf, ps, tx, ks, PA, pc, TA, tc, KA, kc, hd1, rfl, rfl, hp, ht, hf, hks⟩ := hn.open_
    obtain rfl : d = d1 := by omega
    have hb1 : Below w.heap.size w (w.alloc (.cells #[.bool lf, .slice PA ps.length pc, .slice TA tx.length tc, .slice KA ks.length kc] 26)) := (Below.refl _ _).alloc (Nat.le_refl _) _
    have HP := hd hp
    have HKS := hd hks
    have HW := hd hf.1
    have hl1 := hf.2.1
    have hl2 := hf.2.2.1
    have hl3 := hf.2.2.2.1
    obtain ⟨m1, m2⟩ := hm
    obtain ⟨M, hM⟩ : ∃ M, M = wrap64 (m - (1 + tx.length + ps.length)) := ⟨_, rfl⟩
    have HB := hd hb1
    have HF0 := hd (show leftT m (.mk lf ps tx ks) = if propsW M ps < 0 then -1 else leftK (propsW M ps) ks by rw [leftT, hM])
    have hMb := wrap_in (m - (1 + tx.length + ps.length))
    rw [← hM] at hMb
    obtain ⟨M1, M2⟩ := hMb
    have HM := hd hM
    clear hn hp ht hf hks hd1 hM hb1
    go_enter Tryd.func23, Tryd.ntmps23
    go_wp2
    go_loopw [1, 22] (fun z i wr => ∃ (k : Nat) (y : Int), k ≤ ps.length ∧ z = .int .i64 y ∧ i = .int .i64 k ∧ Hid (In64 y) ∧ Hid (Below (w.alloc (.cells #[.bool lf, .slice PA ps.length pc, .slice TA tx.length tc, .slice KA ks.length kc] 26)).heap.size (w.alloc (.cells #[.bool lf, .slice PA ps.length pc, .slice TA tx.length tc, .slice KA ks.length kc] 26)) wr) ∧ Hid (y = propsW M (ps.take k))) (fun _ i _ => ps.length - (intOf i).toNat)
    case atStart => exact ⟨0, M, Nat.zero_le _, by rw [HM.out], rfl, ⟨M1, M2⟩, Below.refl _ _, rfl⟩
    case round =>
      obtain ⟨k, y, hk, rfl, rfl, HI, HR, HY⟩ := hrel
      obtain ⟨I1, I2⟩ := HI.out
      have hbr := HB.out.trans (HR.out.mono HB.out.size)
      have hsz := hbr.size
      by_cases hlt : k < ps.length
      · obtain ⟨b, o, rfl, hlb, c1, c2⟩ := (HP.out.below hbr).at_ hlt
        obtain ⟨s1, s2⟩ := HW.out.at_ hlt
        have HY2 := hd (propsW_take M (prAt_get hlt))
        rw [← HY.out] at HY2
        have HBR := hd hbr
        clear hbr
        go_wp2
        go_roundw
        case rel => exact ⟨k + 1, _, by omega, rfl, by go_num, hd (wrap_in _), hd (HR.out.alloc HR.out.size _), hd (by rw [HY2.out]; rfl)⟩
        case measure => simp [intOf]; omega
      · have HE := hd (show y = propsW M ps by rw [HY.out, List.take_of_length_le (by omega)])
        obtain ⟨x0, x1, x2, x3⟩ := box4 HR.out
        clear HY HP HW
        by_cases hneg : y < 0
        · have HF := hd (show leftT m (.mk lf ps tx ks) = -1 by rw [HF0.out, ← HE.out, if_pos hneg])
          go_wp2
          go_ret
          exact ⟨ret_int HF.out.symm, hbr⟩
        · have HF := hd (show leftT m (.mk lf ps tx ks) = leftK y (ks.drop 0) by rw [HF0.out, ← HE.out, if_neg hneg]; rfl)
          have HBR := hd hbr
          clear hbr
          go_wp2
          obtain ⟨wo, hwo⟩ : ∃ wo : World, wo = wr := ⟨_, rfl⟩
          subst hwo
          obtain ⟨yo, hyo⟩ : ∃ yo : Int, yo = y := ⟨_, rfl⟩
          subst hyo
          clear x0 x1 x2 x3 HI HE HF0 HR
          go_loopw [1, 43] (fun z i wr => ∃ (k : Nat) (y : Int), k ≤ ks.length ∧ z = .int .i64 y ∧ i = .int .i64 k ∧ Hid (In64 y) ∧ Hid (Below w.heap.size w wr) ∧ Hid (leftT m (.mk lf ps tx ks) = leftK y (ks.drop k))) (fun _ i _ => ks.length - (intOf i).toNat)
          case atStart => exact ⟨0, yo, Nat.zero_le _, rfl, rfl, ⟨I1, I2⟩, HBR, HF⟩
          case round =>
            clear HF I1 I2 hneg hlt HBR hsz
            obtain ⟨k, y, hk, rfl, rfl, HI, HR, HY⟩ := hrel
            obtain ⟨I1, I2⟩ := HI.out
            have hsz := HR.out.size
            by_cases hlt : k < ks.length
            · obtain ⟨n1, b, o, lf1, PA1, np1, pc1, TA1, nt1, tc1, KA1, nk1, kc1, hn1, rfl, hbg, hnm, c0, c1, c2, c3⟩ := (HKS.out.below HR.out).at_ hlt
              obtain ⟨wk, hwk⟩ : ∃ wk, wk = wr.alloc (.cells #[.bool lf1, .slice PA1 np1 pc1, .slice TA1 nt1 tc1, .slice KA1 nk1 kc1] 26) := ⟨_, rfl⟩
              have hbk : Below w.heap.size w wk := hwk ▸ HR.out.alloc (by omega) _
              have hbk2 : Below wr.heap.size wr wk := hwk ▸ (Below.refl _ _).alloc (Nat.le_refl _) _
              have HC := hd (ih wk _ n1 y ⟨I1, I2⟩ (((hnm.more hsz).below hbk2).more hbk2.size))
              have HK := hd hbk
              obtain ⟨x, hx⟩ : ∃ x, leftT y n1 = x := ⟨_, rfl⟩
              have hxi := leftT_in n1 y
              rw [hx] at HC hxi
              have HXI := hd hxi
              by_cases hx0 : x < 0
              · have HG := hd (HY.out.trans (leftK_stop hn1 hx hx0))
                subst hwk
                clear hn1 hnm hbk hbk2 hx HKS HY hxi
                go_wp2_with (first | (refine HC.out.mono ?_; rintro e w' ⟨rfl, hb'⟩))
                go_ret
                exact ⟨ret_int HG.out.symm, HK.out.trans (hb'.mono HK.out.size)⟩
              · have HG := hd (HY.out.trans (leftK_step hn1 hx hx0))
                subst hwk
                clear hn1 hnm hbk hbk2 hx HKS HY hxi
                go_wp2_with (first | (refine HC.out.mono ?_; rintro e w' ⟨rfl, hb'⟩))
                go_roundw
                case rel => exact ⟨k + 1, x, by omega, rfl, by go_num, HXI, hd (HK.out.trans (hb'.mono HK.out.size)), HG⟩
                case measure => simp [intOf]; omega
            · have HG := hd (HY.out.trans (leftK_end (by omega)))
              clear HY
              go_wp2
              go_ret
              exact ⟨ret_int HG.out.symm, HR.out⟩

/-- Few: is the tree small, as ints tell it? -/
def fewB (m : Int) (n : NT) : Bool := decide (0 ≤ leftT m n)
set_option maxRecDepth 4000 in
set_option maxHeartbeats 1000000 in
theorem few_any (d : Nat) (w : World) (v : Value) (n : NT) (m : Int) (hm : In64 m) (hn : NodeAt d w w.heap.size v n) : Calls Tryd.prog 10 #[v, .int .i64 m] w (Still (.bool (fewB m n)) w) := by
  have hn0 := hn
  obtain ⟨d', lf, ps, tx, ks, PA, pc, TA, tc, KA, kc, hd', rfl, rfl, hp, ht, hf, hks⟩ := hn.open_
  have hb1 : Below w.heap.size w (w.alloc (.cells #[.bool lf, .slice PA ps.length pc, .slice TA tx.length tc, .slice KA ks.length kc] 26)) := (Below.refl _ _).alloc (Nat.le_refl _) _
  have HC := hd (left_any d _ _ _ m hm (hn0.later hb1))
  obtain ⟨y, hy⟩ : ∃ y, y = leftT m (.mk lf ps tx ks) := ⟨_, rfl⟩
  rw [← hy] at HC
  have HF := hd (show fewB m (.mk lf ps tx ks) = decide (0 ≤ y) by rw [hy]; rfl)
  have HB := hd hb1
  clear hn hn0 hp ht hf hks hd' hb1 hm hy
  go_enter Tryd.func10, Tryd.ntmps10
  go_wp2_with (first | (refine HC.out.mono ?_; rintro e w' ⟨rfl, hb⟩))
  go_ret
  exact ⟨ret_bool HF.out.symm, HB.out.trans (hb.mono HB.out.size)⟩

end Go.Proofs.YtknkclbjocfhiaaDoor
