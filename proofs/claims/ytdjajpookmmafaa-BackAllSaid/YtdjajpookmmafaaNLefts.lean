/- left and Few: how many more nodes, runes and properties there might be, as ints tell it. The chapter's example: an element with two leaves of a and bc has the size 6. NodeTypes answers true. NodeSame answers true. -/
import Derived.Test.YtdjajpookmmafaaNRSame
import Derived.Laws.IdiomStrings
namespace Go.Proofs.Ytdjajpookmmafaa
open Go.RowKit

/-- What a property takes; what a list takes; what a tree leaves. -/
def bigP (p : Pr) : Int := (p.1.size : Int) / 64 + (p.2.size : Int) / 64
def propsW (m : Int) (l : List Pr) : Int := l.foldl (fun m p => wrap64 (m - bigP p)) m
mutual
/-- How many more there might be behind a tree, and behind trees. -/
def leftT : Int → NT → Int
  | m, .mk _ ps tx ks => if propsW (wrap64 (m - (1 + tx.length + ps.length))) ps < 0 then -1 else leftK (propsW (wrap64 (m - (1 + tx.length + ps.length))) ps) ks
def leftK : Int → List NT → Int
  | m, [] => m
  | m, k :: r => if leftT m k < 0 then -1 else leftK (leftT m k) r
end
set_option maxRecDepth 4000 in
theorem propsW_take {l : List Pr} {k : Nat} {p : Pr} (m : Int) (h : l[k]? = some p) : propsW m (l.take (k + 1)) = wrap64 (propsW m (l.take k) - bigP p) := by
  unfold propsW; rw [take_one h, List.foldl_append]; rfl
set_option maxRecDepth 4000 in
theorem prAt_get {l : List Pr} {k : Nat} (h : k < l.length) : l[k]? = some (prAt l k) := by
  rw [prAt_eq l k h]; exact List.getElem?_eq_getElem h
def In64 (a : Int) : Prop := -9223372036854775808 ≤ a ∧ a ≤ 9223372036854775807
set_option maxRecDepth 4000 in
theorem propsW_in (l : List Pr) : ∀ m, In64 m → In64 (propsW m l) := by
  induction l with
  | nil => intro m h; exact h
  | cons p r ih => intro m _; exact ih _ (wrap_in _)
set_option maxRecDepth 4000 in
mutual
theorem leftT_in : ∀ (n : NT) (m : Int), In64 (leftT m n)
  | .mk _ ps tx ks, m => by
    rw [leftT]
    split
    · unfold In64; omega
    · exact leftK_in ks _ (propsW_in ps _ (wrap_in _))
theorem leftK_in : ∀ (l : List NT) (m : Int), In64 m → In64 (leftK m l)
  | [], m, h => by rw [leftK]; exact h
  | k :: r, m, h => by
    rw [leftK]
    split
    · unfold In64; omega
    · exact leftK_in r _ (leftT_in k m)
end
set_option maxRecDepth 4000 in
theorem leftK_step {ks : List NT} {k : Nat} {n : NT} {m y : Int} (h : ks[k]? = some n) (hy : leftT m n = y) (h0 : ¬ y < 0) : leftK m (ks.drop k) = leftK y (ks.drop (k + 1)) := by
  subst hy; rw [drop_one h, leftK, if_neg h0]
set_option maxRecDepth 4000 in
theorem leftK_stop {ks : List NT} {k : Nat} {n : NT} {m y : Int} (h : ks[k]? = some n) (hy : leftT m n = y) (h0 : y < 0) : leftK m (ks.drop k) = -1 := by
  subst hy; rw [drop_one h, leftK, if_pos h0]
set_option maxRecDepth 4000 in
theorem leftK_end {ks : List NT} {k : Nat} {m : Int} (h : ks.length ≤ k) : leftK m (ks.drop k) = m := by
  rw [List.drop_eq_nil_of_le h]; rfl

set_option maxRecDepth 4000 in
set_option maxHeartbeats 8000000 in
theorem left_any : ∀ (d : Nat) (w : World) (v : Value) (n : NT) (m : Int), In64 m → NodeAt d w w.heap.size v n →
      Calls Try.prog 44 #[v, .int .i64 m] w (Still (.int .i64 (leftT m n)) w) := by
  intro d
  induction d with
  | zero => intro w v n m _ h; exact h.elim
  | succ d ih =>
    intro w v n m hm hn
    obtain ⟨d1, lf, ps, tx, ks, PA, pc, TA, tc, KA, kc, hd1, rfl, rfl, hp, ht, hf, hks⟩ := hn.open_
    obtain rfl : d = d1 := by omega
    have hb1 : Below w.heap.size w (w.alloc (.cells #[.bool lf, .slice PA ps.length pc, .slice TA tx.length tc, .slice KA ks.length kc] 27)) := (Below.refl _ _).alloc (Nat.le_refl _) _
    have HP := hd hp
    have HKS := hd hks
    have HW := hd hf.1
    have hl1 := hf.2.1
    have hl2 := hf.2.2.1
    have hl3 := hf.2.2.2.1
    obtain ⟨m1, m2⟩ := hm
    obtain ⟨M, hM⟩ : ∃ M, M = wrap64 (m - (1 + tx.length + ps.length)) := ⟨_, rfl⟩
    have HB := hd hb1
    have HF0 := hd (show leftT m (.mk lf ps tx ks) = if propsW M ps < 0 then -1 else leftK (propsW M ps) ks by rw [leftT, hM])
    have hMb := wrap_in (m - (1 + tx.length + ps.length))
    rw [← hM] at hMb
    obtain ⟨M1, M2⟩ := hMb
    have HM := hd hM
    clear hn hp ht hf hks hd1 hM hb1
    go_enter Try.func44, Try.ntmps44
    go_wp2
    go_loopw [1, 22] (fun z i wr => ∃ (k : Nat) (y : Int), k ≤ ps.length ∧ z = .int .i64 y ∧ i = .int .i64 k ∧ Hid (In64 y) ∧ Hid (Below (w.alloc (.cells #[.bool lf, .slice PA ps.length pc, .slice TA tx.length tc, .slice KA ks.length kc] 27)).heap.size (w.alloc (.cells #[.bool lf, .slice PA ps.length pc, .slice TA tx.length tc, .slice KA ks.length kc] 27)) wr) ∧ Hid (y = propsW M (ps.take k))) (fun _ i _ => ps.length - (intOf i).toNat)
    case atStart => exact ⟨0, M, Nat.zero_le _, by rw [HM.out], rfl, ⟨M1, M2⟩, Below.refl _ _, rfl⟩
    case round =>
      obtain ⟨k, y, hk, rfl, rfl, HI, HR, HY⟩ := hrel
      obtain ⟨I1, I2⟩ := HI.out
      have hbr := HB.out.trans (HR.out.mono HB.out.size)
      have hsz := hbr.size
      by_cases hlt : k < ps.length
      · obtain ⟨b, o, rfl, hlb, c1, c2⟩ := (HP.out.below hbr).at_ hlt
        obtain ⟨s1, s2⟩ := HW.out.at_ hlt
        have HY2 := hd (propsW_take M (prAt_get hlt))
        rw [← HY.out] at HY2
        have HBR := hd hbr
        clear hbr
        go_wp2
        go_roundw
        case rel => exact ⟨k + 1, _, by omega, rfl, by go_num, hd (wrap_in _), hd (HR.out.alloc HR.out.size _), hd (by rw [HY2.out]; rfl)⟩
        case measure => simp [intOf]; omega
      · have HE := hd (show y = propsW M ps by rw [HY.out, List.take_of_length_le (by omega)])
        obtain ⟨x0, x1, x2, x3⟩ := box4 HR.out
        clear HY HP HW
        by_cases hneg : y < 0
        · have HF := hd (show leftT m (.mk lf ps tx ks) = -1 by rw [HF0.out, ← HE.out, if_pos hneg])
          go_wp2
          go_ret
          exact ⟨ret_int HF.out.symm, hbr⟩
        · have HF := hd (show leftT m (.mk lf ps tx ks) = leftK y (ks.drop 0) by rw [HF0.out, ← HE.out, if_neg hneg]; rfl)
          have HBR := hd hbr
          clear hbr
          go_wp2
          obtain ⟨wo, hwo⟩ : ∃ wo : World, wo = wr := ⟨_, rfl⟩
          subst hwo
          obtain ⟨yo, hyo⟩ : ∃ yo : Int, yo = y := ⟨_, rfl⟩
          subst hyo
          clear x0 x1 x2 x3 HI HE HF0 HR
          go_loopw [1, 43] (fun z i wr => ∃ (k : Nat) (y : Int), k ≤ ks.length ∧ z = .int .i64 y ∧ i = .int .i64 k ∧ Hid (In64 y) ∧ Hid (Below w.heap.size w wr) ∧ Hid (leftT m (.mk lf ps tx ks) = leftK y (ks.drop k))) (fun _ i _ => ks.length - (intOf i).toNat)
          case atStart => exact ⟨0, yo, Nat.zero_le _, rfl, rfl, ⟨I1, I2⟩, HBR, HF⟩
          case round =>
            clear HF I1 I2 hneg hlt HBR hsz
            obtain ⟨k, y, hk, rfl, rfl, HI, HR, HY⟩ := hrel
            obtain ⟨I1, I2⟩ := HI.out
            have hsz := HR.out.size
            by_cases hlt : k < ks.length
            · obtain ⟨n1, b, o, lf1, PA1, np1, pc1, TA1, nt1, tc1, KA1, nk1, kc1, hn1, rfl, hbg, hnm, c0, c1, c2, c3⟩ := (HKS.out.below HR.out).at_ hlt
              obtain ⟨wk, hwk⟩ : ∃ wk, wk = wr.alloc (.cells #[.bool lf1, .slice PA1 np1 pc1, .slice TA1 nt1 tc1, .slice KA1 nk1 kc1] 27) := ⟨_, rfl⟩
              have hbk : Below w.heap.size w wk := hwk ▸ HR.out.alloc (by omega) _
              have hbk2 : Below wr.heap.size wr wk := hwk ▸ (Below.refl _ _).alloc (Nat.le_refl _) _
              have HC := hd (ih wk _ n1 y ⟨I1, I2⟩ (((hnm.more hsz).below hbk2).more hbk2.size))
              have HK := hd hbk
              obtain ⟨x, hx⟩ : ∃ x, leftT y n1 = x := ⟨_, rfl⟩
              have hxi := leftT_in n1 y
              rw [hx] at HC hxi
              have HXI := hd hxi
              by_cases hx0 : x < 0
              · have HG := hd (HY.out.trans (leftK_stop hn1 hx hx0))
                subst hwk
                clear hn1 hnm hbk hbk2 hx HKS HY hxi
                go_wp2_with (first | (refine HC.out.mono ?_; rintro e w' ⟨rfl, hb'⟩))
                go_ret
                exact ⟨ret_int HG.out.symm, HK.out.trans (hb'.mono HK.out.size)⟩
              · have HG := hd (HY.out.trans (leftK_step hn1 hx hx0))
                subst hwk
                clear hn1 hnm hbk hbk2 hx HKS HY hxi
                go_wp2_with (first | (refine HC.out.mono ?_; rintro e w' ⟨rfl, hb'⟩))
                go_roundw
                case rel => exact ⟨k + 1, x, by omega, rfl, by go_num, HXI, hd (HK.out.trans (hb'.mono HK.out.size)), HG⟩
                case measure => simp [intOf]; omega
            · have HG := hd (HY.out.trans (leftK_end (by omega)))
              clear HY
              go_wp2
              go_ret
              exact ⟨ret_int HG.out.symm, HR.out⟩

/-- Few: is the tree small, as ints tell it? -/
def fewB (m : Int) (n : NT) : Bool := decide (0 ≤ leftT m n)
set_option maxRecDepth 4000 in
set_option maxHeartbeats 1000000 in
theorem few_any (d : Nat) (w : World) (v : Value) (n : NT) (m : Int) (hm : In64 m) (hn : NodeAt d w w.heap.size v n) : Calls Try.prog 23 #[v, .int .i64 m] w (Still (.bool (fewB m n)) w) := by
  have hn0 := hn
  obtain ⟨d', lf, ps, tx, ks, PA, pc, TA, tc, KA, kc, hd', rfl, rfl, hp, ht, hf, hks⟩ := hn.open_
  have hb1 : Below w.heap.size w (w.alloc (.cells #[.bool lf, .slice PA ps.length pc, .slice TA tx.length tc, .slice KA ks.length kc] 27)) := (Below.refl _ _).alloc (Nat.le_refl _) _
  have HC := hd (left_any d _ _ _ m hm (hn0.later hb1))
  obtain ⟨y, hy⟩ : ∃ y, y = leftT m (.mk lf ps tx ks) := ⟨_, rfl⟩
  rw [← hy] at HC
  have HF := hd (show fewB m (.mk lf ps tx ks) = decide (0 ≤ y) by rw [hy]; rfl)
  have HB := hd hb1
  clear hn hn0 hp ht hf hks hd' hb1 hm hy
  go_enter Try.func23, Try.ntmps23
  go_wp2_with (first | (refine HC.out.mono ?_; rintro e w' ⟨rfl, hb⟩))
  go_ret
  exact ⟨ret_bool HF.out.symm, HB.out.trans (hb.mono HB.out.size)⟩

end Go.Proofs.Ytdjajpookmmafaa

namespace Go.Proofs.Ytdjajpookmmafaa
open Go.RowKit

theorem conv_lit (s : ByteArray) (l : List Int) (n : Nat) (hn : l.length = n) (hl : Conv.runesFrom s s.size 0 #[] = (rv l).toArray) (hsz : n ≤ 1000) : ∃ (c : World → Nat) (row : World → Array Value), (∀ w, n ≤ c w) ∧
    (∀ w, (convert 9 24 (.string s)).run Try.prog w = .ok (.slice (some ⟨w.heap.size, 0, none⟩) n (c w)) (w.drew.alloc (.cells (row w) 21))) ∧ ∀ (w : World) (k : Nat) (u : Value), (rv l)[k]? = some u → (row w)[k]? = some u := by
  subst hn
  refine ⟨fun w => grownCap w l.length 0 21, fun w => (rv l).toArray ++ Array.replicate (grownCap w l.length 0 21 - l.length) (.int .i32 0), fun w => grownCap_ge w _ _ _, fun w => ?_, fun w k u h => ?_⟩
  · have h := run_runes_of_string w 9 24 21 s Try.underlying9 Try.underlying24 Try.underlying21 (by rw [hl]; simp [rv]; omega)
    rw [hl] at h
    simpa [rv] using h
  · have hk : k < (rv l).length := (List.getElem?_eq_some_iff.1 h).1
    rw [Array.getElem?_append_left (by simpa using hk)]
    simpa using h

set_option maxRecDepth 4000 in
theorem runes_a : Conv.runesFrom { data := #[97] } (ByteArray.size { data := #[97] }) 0 #[] = (rv [97]).toArray := by kernel_rfl
set_option maxRecDepth 4000 in
theorem runes_bc : Conv.runesFrom { data := #[98, 99] } (ByteArray.size { data := #[98, 99] }) 0 #[] = (rv [98, 99]).toArray := by kernel_rfl

def exT : NT := .mk false [(tyKey, { data := #[112] })] [] [.mk true [] [97] [], .mk true [] [98, 99] []]
set_option maxRecDepth 4000 in
theorem exT_size : wrap64 (sizeT exT) = 6 := by simp [exT, sizeT, sizeK, wrap64]
set_option maxRecDepth 4000 in
theorem ex_leaf {w : World} {g n c : Nat} {l : List Int} (hl : l.length = n) (hn : n ≤ 1000) (hc : n ≤ c) (h : VL w w.heap.size (some ⟨g, 0, none⟩) (rv l)) : NodeAt 1 w w.heap.size (.agg #[.bool true, .slice none 0 0, .slice (some ⟨g, 0, none⟩) n c, .slice none 0 0]) (.mk true [] l []) := by
  subst hl
  exact NodeAt.shut rfl rfl rfl (PL.nil _ _ _) h ⟨⟨by simp, by simp⟩, by simp, by omega, by simp, by simp, hc, by simp⟩ (fun k m hk => by simp at hk)
set_option maxRecDepth 4000 in
theorem ex_wide : ∀ p ∈ [((tyKey, { data := #[112] }) : Pr)], p.1.size ≤ 9223372036854775807 ∧ p.2.size ≤ 9223372036854775807 := fun p hp => by
  rw [List.mem_singleton] at hp
  subst hp
  exact ⟨by show (4 : Nat) ≤ _; omega, by show (1 : Nat) ≤ _; omega⟩
set_option maxRecDepth 4000 in
theorem ex_node {w : World} {gp cp g1 c1 g2 c2 b : Nat} (hcp : 1 ≤ cp) (hc1 : 1 ≤ c1) (hc2 : 2 ≤ c2) (hp : PL w w.heap.size (some ⟨gp, 0, none⟩) [(tyKey, { data := #[112] })]) (h1 : VL w w.heap.size (some ⟨g1, 0, none⟩) (rv [97])) (h2 : VL w w.heap.size (some ⟨g2, 0, none⟩) (rv [98, 99])) (hb : b < w.heap.size)
    (hc : ∀ j u, #[Value.bool true, .slice none 0 0, .slice (some ⟨g1, 0, none⟩) 1 c1, .slice none 0 0, .bool true, .slice none 0 0, .slice (some ⟨g2, 0, none⟩) 2 c2, .slice none 0 0][j]? = some u → w.cell? ⟨b, j, none⟩ = some u) :
    NodeAt 2 w w.heap.size (.agg #[.bool false, .slice (some ⟨gp, 0, none⟩) 1 cp, .slice none 0 0, .slice (some ⟨b, 0, none⟩) 2 2]) exT := by
  refine NodeAt.shut rfl rfl rfl hp (VL.nil _ _ _) ⟨⟨by simp, ex_wide⟩, by simp, by simp, by simp, by simpa using hcp, by simp, by simp⟩ (fun k m hk => ?_)
  match k, hk with
  | 0, hk =>
    simp at hk; subst hk
    exact ⟨b, 0, _, rfl, hb, ex_leaf rfl (by simp) hc1 h1, _, _, _, _, rfl, hc 0 _ rfl, hc 1 _ rfl, hc 2 _ rfl, hc 3 _ rfl⟩
  | 1, hk =>
    simp at hk; subst hk
    exact ⟨b, 0, _, rfl, hb, ex_leaf rfl (by simp) hc2 h2, _, _, _, _, rfl, hc 4 _ rfl, hc 5 _ rfl, hc 6 _ rfl, hc 7 _ rfl⟩
  | k + 2, hk => simp at hk

set_option maxRecDepth 4000 in
theorem ex_below {w w' : World} {o : Obj} (h : Below (w.alloc o).heap.size (w.alloc o) w') : Below w.heap.size w w' := ((Below.refl _ _).alloc (Nat.le_refl _) _).trans (h.mono (by simp))
set_option maxRecDepth 4000 in
theorem ex_lt {w w' : World} {o : Obj} (h : Below (w.alloc o).heap.size (w.alloc o) w') : w.heap.size < w'.heap.size := by have := h.size; simp at this; omega

end Go.Proofs.Ytdjajpookmmafaa

namespace Go.Proofs.Ytdjajpookmmafaa
open Go.RowKit

/-- Block b holds these four cells. -/
def Box (w : World) (b : Nat) (u0 u1 u2 u3 : Value) : Prop := w.cell? ⟨b, 0, none⟩ = some u0 ∧ w.cell? ⟨b, 1, none⟩ = some u1 ∧ w.cell? ⟨b, 2, none⟩ = some u2 ∧ w.cell? ⟨b, 3, none⟩ = some u3
set_option maxRecDepth 4000 in
theorem Box.keep {w w' : World} {b : Nat} {u0 u1 u2 u3 : Value} (h : Box w b u0 u1 u2 u3) (hb : Below w.heap.size w w') : Box w' b u0 u1 u2 u3 :=
  ⟨(hb.cell (cell_in h.1)).trans h.1, (hb.cell (cell_in h.2.1)).trans h.2.1, (hb.cell (cell_in h.2.2.1)).trans h.2.2.1, (hb.cell (cell_in h.2.2.2)).trans h.2.2.2⟩
set_option maxRecDepth 4000 in
theorem Box.lt {w : World} {b : Nat} {u0 u1 u2 u3 : Value} (h : Box w b u0 u1 u2 u3) : b < w.heap.size := cell_in h.1
set_option maxRecDepth 4000 in
theorem Box.new (w : World) (u0 u1 u2 u3 : Value) (t : TypeId) : Box (w.alloc (.cells #[u0, u1, u2, u3] t)) w.heap.size u0 u1 u2 u3 := by
  refine ⟨?_, ?_, ?_, ?_⟩ <;> (rw [World.cell?_alloc_at _ _ _ _ rfl]; rfl)
set_option maxRecDepth 4000 in
theorem Box.alloc {w : World} {b : Nat} {u0 u1 u2 u3 : Value} (h : Box w b u0 u1 u2 u3) (o : Obj) : Box (w.alloc o) b u0 u1 u2 u3 := h.keep ((Below.refl _ _).alloc (Nat.le_refl _) o)

set_option maxRecDepth 4000 in
theorem getV_none {ps : List Pr} {k : ByteArray} (h : getB ps k = false) : getV ps k = ByteArray.empty := by
  unfold getB at h; unfold getV
  cases hf : getF ps k with
  | none => rfl
  | some p => rw [hf] at h; cases h

end Go.Proofs.Ytdjajpookmmafaa

namespace Go.Proofs.Ytdjajpookmmafaa
open Go.RowKit

theorem NodeAt.val {d : Nat} {w : World} {B : Nat} {v : Value} {n : NT} (h : NodeAt d w B v n) : ∃ lf PA np pc TA nt tc KA nk kc, v = .agg #[.bool lf, .slice PA np pc, .slice TA nt tc, .slice KA nk kc] := by
  obtain ⟨d', lf, ps, tx, ks, PA, pc, TA, tc, KA, kc, _, _, e, _⟩ := h.open_
  exact ⟨_, _, _, _, _, _, _, _, _, _, e⟩

end Go.Proofs.Ytdjajpookmmafaa
