/- Text: a visit that appends to a captured row; the document's Text, that calls itself. -/
import Derived.Test.YtkbggbkcchndeaaNFresh
namespace Go.Proofs.Ytkbggbkcchndeaa
open Go.RowKit
open Go.WideShapes (add_plain)

/-- Nothing appended: the row stays. -/
theorem run_append_zero {w : World} {ty t : TypeId} {base e size n : Nat} {i : TypeInfo} {v : Value} {xs : List Value} {A : Option Addr} {c : Nat} (ht : Try.prog.underlying t = some (.slice e)) (hi : Try.prog.info? e = some i) (hown : w.ownsRow base e size v n xs) :
    (Builtin.append_ #[t, t] ty #[v, .slice A 0 c]).run Try.prog w = .ok v w := by
  rcases hown.2 with ⟨rfl, rfl⟩ | ⟨g, cap, cur, rfl, _, _, hnc, _⟩
  · cases A <;> simp [Builtin.append_, run_underlying ht, sizeOf, typeInfo, hi, Builtin.lenOf, Builtin.firstCells, loadCells, loadCellsFrom]
  · cases A <;> simp [Builtin.append_, run_underlying ht, sizeOf, typeInfo, hi, Builtin.lenOf, Builtin.firstCells, loadCells, loadCellsFrom, hnc, storeCells]

/-- A text appended to a row of the call's own: the row is in its block, or in a new one. -/
theorem wpList_append_X (W : World) {ops : Array Oper} {rest : List Oper} {o : Oper} {a : Act} {Q : Exit → Act → World → Prop} (hgd : o.guard = none) (s x : Operand)
    (ho : o.op = .call { callee := .builtin .append, args := #[s, x], argTypes := #[23, 23] })
    (b : Nat) (v : Value) (k l : List Value) (hs : a.eval s = v) (hO : OwnV 21 W b v k) (A : Option Addr) (n c B : Nat) (hx : a.eval x = .slice A n c) (hn : l.length = n) (hp : VL W B A l) (h1 : ∀ u ∈ l, u.oneCell' = true) (hlen : k.length + l.length ≤ 2200000) (hb : b ≤ W.heap.size)
    (hK : ∀ v' w', OwnV 21 w' b v' (k ++ l) → Grew b v W w' → (v'.ownBlock = v.ownBlock ∨ ∃ j, v'.ownBlock = some j ∧ W.heap.size ≤ j) → wpList Try.prog ops Q rest (a.put o.dst v') w') :
    wpList Try.prog ops Q (o :: rest) a W := by
  subst hn
  obtain ⟨i0, z, hi, hz0, hz1, hz2, hz3⟩ := runeElem.info
  rcases Nat.eq_zero_or_pos l.length with h0 | h0
  · have hl : l = [] := List.eq_nil_of_length_eq_zero h0
    subst hl
    refine wpList_plain hgd fun K hK2 => ?_
    have hrun := run_append_zero (w := W) (ty := o.type) (A := A) (c := c) runeElem.under hi hO.own
    unfold Oper.wp
    simp [execOp, ho, resolve, invoke, builtin, hs, hx, hrun, Result.andThen]
    exact hK2 _ _ (hK v W (by rw [List.append_nil]; exact hO) (Grew.refl _ _ _) (.inl rfl))
  · obtain ⟨b', o', rfl, _, hc⟩ := hp (by intro e; rw [e] at h0; simp at h0)
    refine wpList_plain hgd fun K hK2 => ?_
    refine wp_append_lies W s x 23 ho b 21 i0 z 1 4 runeElem.under hi hz0 hz1 hz2 hz3 (by decide) v k.length k hs hO.own ⟨b', o', none⟩ l.length c l hx (by simp) (fun j u hj => by rw [add_plain]; exact hc j u hj) h1 h0
      (by unfold maxLen; omega) (by omega) hb W.heap.size rfl (fun g cap w' h1 h2 h3 _ => hK2 _ _ (hK _ w' (OwnV.of_own (n := k.length + l.length) h1 (by simp)) ?_ ?_))
    · exact ⟨h2.size, fun B w0 hB hBW hb0 => hb0.grown h2 hBW (fun j hj => Nat.le_trans hB (hO.lt hj).1), fun p hp hne => World.cell?_of_block (h2.block p.block hp hne)⟩
    · rcases h3 with e | e
      · exact .inl (by rw [e]; rfl)
      · exact .inr ⟨g, rfl, by omega⟩

theorem One.grew {t : TypeId} {g N : Nat} {u v : Value} {w w' : World} (h : One t g u w) (hg : Grew N v w w') (hgN : g < N) : One t g u w' :=
  ((hg.below (g + 1) w hgN (lt_of_block h) (Below.refl _ _)).block g (Nat.lt_succ_self g)).trans h
theorem OwnV.aside {t : TypeId} {w : World} {g N : Nat} {v x : Value} {xs : List Value} (h : OwnV t w N v xs) (hg : g < N) : OwnV t (w.setCell ⟨g, 0, none⟩ x) N v xs :=
  OwnV.of_own (ownsRow_setCell_other h.own (by intro e; have := (h.lt e).1; simp at this; omega) x) rfl
theorem Eff.grew {g N : Nat} {O : Option Nat} {v v' : Value} {w w' : World} (hg : Grew N v w w') (hgN : g < N) (hgw : g < w.heap.size) (hO : v.ownBlock = O) (hl : v'.ownBlock = v.ownBlock ∨ ∃ j, v'.ownBlock = some j ∧ w.heap.size ≤ j) : Eff g O v'.ownBlock w w' :=
  ⟨hg.below g w (by omega) (by omega) (Below.refl _ _), hg.size, fun p hp _ hn => hg.cell p hp (by rw [hO]; exact hn), by rw [← hO]; exact hl⟩
/-- The text so far. -/
def QX (g N : Nat) (l : List Int) (O : Option Nat) (w : World) : Prop := ∃ v, One 23 g v w ∧ OwnV 21 w N v (rv l) ∧ v.ownBlock = O ∧ g < N
theorem OwnV.alloc {t : TypeId} {w : World} {b : Nat} {v : Value} {xs : List Value} (h : OwnV t w b v xs) (o : Obj) : OwnV t (w.alloc o) b v xs := h.below ((Below.refl _ _).alloc (Nat.le_refl _) o)

set_option maxHeartbeats 2000000 in
theorem tellSelf_any (g N : Nat) (l : List Int) (d : Nat) (w : World) (v : Value) (n : NT) (O : Option Nat) (hlen : l.length + n.tx.length ≤ 1100000) (hQ0 : QX g N l O w) (hN : N ≤ w.heap.size) (hn : NodeAt d w g v n) :
    Calls Try.prog 40 #[v, .pointer (some ⟨g, 0, none⟩)] w (Did g (QX g N) O (stepX l n) w) := by
  obtain ⟨u, hQ, hu, hO, hgN⟩ := hQ0
  obtain ⟨d', lf, ps, tx, ks, PA, pc, TA, tc, KA, kc, hd', rfl, rfl, hp, ht, hf, hks⟩ := hn.open_
  obtain ⟨A, c, rfl, _, _, _, hu2⟩ := hu.open_at l.length (rv_len l)
  obtain ⟨wb, hwb⟩ : ∃ wb, wb = w.alloc (.cells #[.bool lf, .slice PA ps.length pc, .slice TA tx.length tc, .slice KA ks.length kc] 26) := ⟨_, rfl⟩
  have hQb : One 23 g (.slice A l.length c) wb := hwb ▸ hQ.alloc _
  have hub : OwnV 21 wb N (.slice A l.length c) (rv l) := hwb ▸ hu2.alloc _
  have hgl := lt_of_block hQ
  have hbb : Below w.heap.size w wb := hwb ▸ (Below.refl _ _).alloc (Nat.le_refl _) _
  have htb : VL wb g TA (rv tx) := ht.below (hbb.mono (by omega))
  have x0 := cell_of_one hQb
  have HQ := hd hQb
  have HU := hd hub
  have HT := hd htb
  have HE := hd (show Eff g O O w wb from hwb ▸ (Eff.refl g O w).alloc (by omega) _)
  have hsb := hd (show wb.heap.size = w.heap.size + 1 by rw [hwb]; simp)
  have hl2 : l.length + tx.length ≤ 1100000 := hlen
  have HO := hd hO
  subst hwb
  clear hQ hQb hu hu2 hub hks hp ht hf hn hd' hbb htb hlen hO
  go_enter Try.func40, Try.ntmps40
  go_wp2_with (at_builtin; refine wpList_append_X _ rfl (.tmp 4) (.tmp 6) rfl N (.slice A l.length c) (rv l) (rv tx) rfl HU.out TA tx.length tc g rfl (rv_len tx) HT.out (rv_one tx) (by rw [rv_len, rv_len]; omega) (by rw [hsb.out]; omega) ?_; intro v2 w2 hu2 hg2 hlie; have HQ2 := hd (HQ.out.grew hg2 hgN); have HLIE := hd hlie; have HG2 := hd hg2; clear hlie hg2; obtain ⟨A2, c2, rfl, _, _, _, hu3⟩ := hu2.open_at (l.length + tx.length) (by simp [rv]); have HU3 := hd hu3; clear hu2 hu3; have x1 := cell_of_one HQ2.out; have x2 := free_of_one HQ2.out; have hgl2 := lt_of_block HQ2.out)
  go_ret
  exact ⟨rfl, _, ⟨_, HQ2.out.set _, (by rw [← rv_append] at HU3; exact HU3.out.aside hgN), rfl, hgN⟩, (HE.out.trans (Eff.grew HG2.out hgN (by rw [hsb.out]; omega) HO.out HLIE.out)).setCell _⟩

theorem tellVisit (g N : Nat) (_hgN : g < N) : Visit 40 g N stepX (QX g N) (fun l n => l.length + (textT n).length ≤ 1100000) (fun l ks => l.length + (textK ks).length ≤ 1100000) :=
  ⟨enters_of Try.func40 (by kernel_rfl) rfl, fun _ _ _ h j hj => (by
      obtain ⟨v, _, hv, hO, _⟩ := h
      exact hv.lt (hO.trans hj)), fun _ _ _ o _ h => (by
      obtain ⟨v, h1, hv, hO, hg⟩ := h
      exact ⟨v, h1.alloc o, hv.alloc o, hO, hg⟩), fun l lf ps tx ks h _ => (by
      simp only [stepX, NT.tx, List.length_append]
      simp only [textT, List.length_append] at h
      omega), fun l m r h => (by
      simp only [textK, List.length_append] at h
      refine ⟨by omega, fun _ => ?_⟩
      rw [walk_text]
      simp only [List.length_append]
      omega), fun d w v n l O hp hQ hN hn => tellSelf_any g N l d w v n O (by
        cases n with
        | mk lf ps tx ks =>
          simp only [textT, List.length_append] at hp
          simp only [NT.tx]
          omega) hQ hN hn⟩

set_option maxHeartbeats 1000000 in
theorem text_any (d : Nat) (w : World) (v : Value) (n : NT) (hlen : (textT n).length ≤ 1100000) (hn : NodeAt d w w.heap.size v n) : Calls Try.prog 19 #[v] w (NewI w (textT n)) := by
  have hn0 := hn
  obtain ⟨lf, PA, np, pc, TA, nt, tc, KA, nk, kc, rfl⟩ := hn.val
  obtain ⟨wb, hwb⟩ : ∃ wb, wb = w.alloc (.cells #[.bool lf, .slice PA np pc, .slice TA nt tc, .slice KA nk kc] 26) := ⟨_, rfl⟩
  have hsb : wb.heap.size = w.heap.size + 1 := by rw [hwb]; simp
  have hb1 : Below w.heap.size w wb := hwb ▸ (Below.refl _ _).alloc (Nat.le_refl _) _
  obtain ⟨wc, hwc⟩ : ∃ wc, wc = wb.alloc (.cells #[.slice none 0 0] 23) := ⟨_, rfl⟩
  have hb2 : Below w.heap.size w wc := hwc ▸ hb1.alloc (by omega) _
  have hsc : wc.heap.size = w.heap.size + 1 + 1 := by rw [hwc]; simp; omega
  have hone : One 23 (w.heap.size + 1) (.slice none 0 0) wc := by rw [hwc, ← hsb]; exact One.new _ _ _
  have HC := hd (each_any (Q := QX (w.heap.size + 1)) (s := []) (n := n) (fun N hN => tellVisit (w.heap.size + 1) N (by omega)) (by omega) (by simpa using hlen)
    (fun N wa hN hb => ⟨.slice none 0 0, (hb.block _ (lt_of_block hone)).trans hone, OwnV.nil _ _, rfl, by omega⟩) ((hn0.below hb2).more (by omega)))
  rw [walk_text, List.nil_append] at HC
  have HB := hd hb2
  have HSC := hd hsc
  clear hn hn0 hb1 hb2 hone hlen hsb hsc
  subst hwc hwb
  go_enter Try.func19, Try.ntmps19
  go_wp2_with (first | (refine HC.out.mono ?_; rintro e w' ⟨rfl, O', ⟨u, hq, hu, _, _⟩, ha⟩; have HU := hd hu; have x0 := cell_of_one hq; obtain ⟨A2, c2, rfl, _, _, _, _⟩ := hu.open_at (textT n).length (rv_len _)))
  go_ret
  exact ⟨_, rfl, HU.out.weaken (by rw [HSC.out]; omega), HB.out.trans (ha.mono (by omega))⟩

theorem rcopy_any (A : Option Addr) (l : List Int) (c : Nat) (w : World) (hl : l.length ≤ 1100000) (hp : VL w w.heap.size A (rv l)) :
    Calls Try.prog 24 #[.slice A l.length c] w (NewI w l) := by
  have HP := hd hp
  clear hp
  go_enter Try.func24, Try.ntmps24
  go_wp2_with (at_builtin; refine wpList_append_X w rfl _ _ rfl w.heap.size (.slice none 0 0) [] (rv l) rfl (OwnV.nil _ _) A l.length c w.heap.size rfl (rv_len l) HP.out (rv_one l) (by rw [rv_len]; simp; omega) (Nat.le_refl _) ?_; intro v' w1 ho1 hg1 _)
  go_ret
  exact ⟨v', rfl, by simpa using ho1, hg1.below _ _ (Nat.le_refl _) (Nat.le_refl _) (Below.refl _ _)⟩

set_option maxHeartbeats 2000000 in
theorem rtext_any : ∀ (d : Nat) (w : World) (v : Value) (n : NT), (textT n).length ≤ 1100000 → NodeAt d w w.heap.size v n → Calls Try.prog 20 #[v] w (NewI w (textT n)) := by
  intro d
  induction d with
  | zero => intro w v n _ h; exact h.elim
  | succ d ih =>
    intro w v n hlen hn
    obtain ⟨d', lf, ps, tx, ks, PA, pc, TA, tc, KA, kc, hd', rfl, rfl, hp, ht, hf, hks⟩ := hn.open_
    obtain rfl : d = d' := by omega
    have hb1 : Below w.heap.size w (w.alloc (.cells #[.bool lf, .slice PA ps.length pc, .slice TA tx.length tc, .slice KA ks.length kc] 26)) := (Below.refl _ _).alloc (Nat.le_refl _) _
    have htl : tx.length + (textK ks).length ≤ 1100000 := by simpa [textT] using hlen
    have HC := hd (rcopy_any TA tx tc _ (by omega) ((ht.below hb1).more hb1.size))
    have HB := hd hb1
    have HKS := hd hks
    have hl3 := hf.2.2.2
    clear hn hp ht hf hks hd' hb1 hlen
    go_enter Try.func20, Try.ntmps20
    go_wp2_with (first | (refine HC.out.mono ?_; intro e w1 h1; obtain ⟨A1, c1, rfl, _, _, ho1, hb1⟩ := h1.own tx.length rfl; obtain ⟨x0, x1, x2, x3⟩ := box4 hb1))
    have HO1 := hd (ho1.weaken (b' := w.heap.size) (by simp))
    have HB1 := hd (HB.out.trans (hb1.mono HB.out.size))
    clear ho1 hb1 x0 x1 x2 x3
    go_loopw [3, 12] (fun z i wr => ∃ (k : Nat), k ≤ ks.length ∧ i = .int .i64 k ∧ Hid (OwnV 21 wr w.heap.size z (rv (tx ++ textK (ks.take k)))) ∧ Hid (Below w.heap.size w wr)) (fun _ i _ => ks.length - (intOf i).toNat)
    case atStart => exact ⟨0, Nat.zero_le _, rfl, (by simpa [textK] using HO1), HB1⟩
    case round =>
      obtain ⟨k, hk, rfl, HO, HR⟩ := hrel
      clear HO1 HB1
      by_cases hlt : k < ks.length
      · obtain ⟨m, b, o, lf', PA', np', pc', TA', nt', tc', KA', nk', kc', hm, rfl, hbg, hnm, c0, c1, c2, c3⟩ := (HKS.out.below HR.out).at_ hlt
        have hsz := HR.out.size
        obtain ⟨wk, hwk⟩ : ∃ wk, wk = wr.alloc (.cells #[.bool lf', .slice PA' np' pc', .slice TA' nt' tc', .slice KA' nk' kc'] 26) := ⟨_, rfl⟩
        have hbk : Below w.heap.size w wk := hwk ▸ HR.out.alloc (by omega) _
        have hbk2 : Below wr.heap.size wr wk := hwk ▸ (Below.refl _ _).alloc (Nat.le_refl _) _
        have htk := textK_take hm
        have hsplit : (textK ks).length = (textK (ks.take k)).length + (textT m).length + (textK (ks.drop (k + 1))).length := by
          conv => lhs; rw [← List.take_append_drop (k + 1) ks, textK_append, htk]
          simp only [List.length_append]
        have HM := hd (ih wk _ m (by omega) ((((hnm.more hsz).below hbk2)).more hbk2.size))
        have HK := hd hbk
        have HOK := hd (HO.out.below hbk2)
        have HZ := hd htk
        have hl4 : tx.length + (textK (ks.take k)).length + (textT m).length ≤ 1100000 := by omega
        subst hwk
        clear hm hnm hbk hbk2 HKS htk hsplit htl
        go_wp2_with (first
          | (at_builtin; refine wpList_append_X _ rfl (.tmp 16) (.tmp 18) rfl w.heap.size _ (rv (tx ++ textK (ks.take k))) (rv (textT m)) rfl (HOK.out.below hb5) A5 (textT m).length c5 _ rfl (rv_len _) hv5 (rv_one _) (by rw [rv_len, rv_len, List.length_append]; omega) (Nat.le_trans HK.out.size hb5.size) ?_; intro v6 w6 ho6 hg6 _; have HO6 := hd ho6; have HG6 := hd hg6; clear ho6 hg6)
          | (refine HM.out.mono ?_; intro e w5 h5; obtain ⟨A5, c5, rfl, _, hv5, _, hb5⟩ := h5.own (textT m).length rfl))
        go_roundw
        case rel => exact ⟨k + 1, by omega, by go_num, (by rw [HZ.out, ← List.append_assoc, rv_append]; exact HO6), hd (HG6.out.below _ _ (Nat.le_refl _) (Nat.le_trans HK.out.size hb5.size) (HK.out.trans (hb5.mono HK.out.size)))⟩
        case measure => simp [intOf]; omega
      · have HF := hd (show OwnV 21 wr w.heap.size _ (rv (textT (.mk lf ps tx ks))) by have := HO.out; rw [List.take_of_length_le (by omega)] at this; exact this)
        clear HO
        go_wp2
        go_ret
        exact ⟨_, rfl, HF.out, HR.out⟩

end Go.Proofs.Ytkbggbkcchndeaa
