/- TreeOrder holds where what comes in is of bulk at most 1048576: for every tree and every path it answers true, and both read afterwards as they read before; the condition is the bound on the bulk. -/
import Derived.Test.YtggapngibkeodaaNFresh
import Derived.Test.YtggapngibkeodaaTPth
import Derived.Test.YtggapngibkeodaaTPaths
import Derived.Test.YtggapngibkeodaaIOpen
import Derived.Test.YtggapngibkeodaaRows
import Derived.Carry
import Derived.JoinedCond
import Derived.Deep.CondSized
namespace Go.Proofs.Ytggapngibkeodaa
open Go.RowKit
open Go.WideShapes (add_plain)

/-- Nothing appended: the row stays. -/
theorem run_append_zero {w : World} {ty t : TypeId} {base e size n : Nat} {i : TypeInfo} {v : Value} {xs : List Value} {A : Option Addr} {c : Nat} (ht : Try.prog.underlying t = some (.slice e)) (hi : Try.prog.info? e = some i) (hown : w.ownsRow base e size v n xs) :
    (Builtin.append_ #[t, t] ty #[v, .slice A 0 c]).run Try.prog w = .ok v w := by
  rcases hown.2 with ⟨rfl, rfl⟩ | ⟨g, cap, cur, rfl, _, _, hnc, _⟩
  · cases A <;> simp [Builtin.append_, run_underlying ht, sizeOf, typeInfo, hi, Builtin.lenOf, Builtin.firstCells, loadCells, loadCellsFrom]
  · cases A <;> simp [Builtin.append_, run_underlying ht, sizeOf, typeInfo, hi, Builtin.lenOf, Builtin.firstCells, loadCells, loadCellsFrom, hnc, storeCells]

/-- A text appended to a row of the call's own: the row is in its block, or in a new one. -/
theorem wpList_append_X (W : World) {ops : Array Oper} {rest : List Oper} {o : Oper} {a : Act} {Q : Exit → Act → World → Prop} (hgd : o.guard = none) (s x : Operand)
    (ho : o.op = .call { callee := .builtin .append, args := #[s, x], argTypes := #[23, 23] })
    (b : Nat) (v : Value) (k l : List Value) (hs : a.eval s = v) (hO : OwnV 21 W b v k) (A : Option Addr) (n c B : Nat) (hx : a.eval x = .slice A n c) (hn : l.length = n) (hp : VL W B A l) (h1 : ∀ u ∈ l, u.oneCell' = true) (hlen : k.length + l.length ≤ 2200000) (hb : b ≤ W.heap.size)
    (hK : ∀ v' w', OwnV 21 w' b v' (k ++ l) → Grew b v W w' → (v'.ownBlock = v.ownBlock ∨ ∃ j, v'.ownBlock = some j ∧ W.heap.size ≤ j) → wpList Try.prog ops Q rest (a.put o.dst v') w') :
    wpList Try.prog ops Q (o :: rest) a W := by
  subst hn
  obtain ⟨i0, z, hi, hz0, hz1, hz2, hz3⟩ := runeElem.info
  rcases Nat.eq_zero_or_pos l.length with h0 | h0
  · have hl : l = [] := List.eq_nil_of_length_eq_zero h0
    subst hl
    refine wpList_plain hgd fun K hK2 => ?_
    have hrun := run_append_zero (w := W) (ty := o.type) (A := A) (c := c) runeElem.under hi hO.own
    unfold Oper.wp
    simp [execOp, ho, resolve, invoke, builtin, hs, hx, hrun, Result.andThen]
    exact hK2 _ _ (hK v W (by rw [List.append_nil]; exact hO) (Grew.refl _ _ _) (.inl rfl))
  · obtain ⟨b', o', rfl, _, hc⟩ := hp (by intro e; rw [e] at h0; simp at h0)
    refine wpList_plain hgd fun K hK2 => ?_
    refine wp_append_lies W s x 23 ho b 21 i0 z 1 4 runeElem.under hi hz0 hz1 hz2 hz3 (by decide) v k.length k hs hO.own ⟨b', o', none⟩ l.length c l hx (by simp) (fun j u hj => by rw [add_plain]; exact hc j u hj) h1 h0
      (by unfold maxLen; omega) (by omega) hb W.heap.size rfl (fun g cap w' h1 h2 h3 _ => hK2 _ _ (hK _ w' (OwnV.of_own (n := k.length + l.length) h1 (by simp)) ?_ ?_))
    · exact ⟨h2.size, fun B w0 hB hBW hb0 => hb0.grown h2 hBW (fun j hj => Nat.le_trans hB (hO.lt hj).1), fun p hp hne => World.cell?_of_block (h2.block p.block hp hne)⟩
    · rcases h3 with e | e
      · exact .inl (by rw [e]; rfl)
      · exact .inr ⟨g, rfl, by omega⟩

theorem One.grew {t : TypeId} {g N : Nat} {u v : Value} {w w' : World} (h : One t g u w) (hg : Grew N v w w') (hgN : g < N) : One t g u w' :=
  ((hg.below (g + 1) w hgN (lt_of_block h) (Below.refl _ _)).block g (Nat.lt_succ_self g)).trans h
theorem OwnV.aside {t : TypeId} {w : World} {g N : Nat} {v x : Value} {xs : List Value} (h : OwnV t w N v xs) (hg : g < N) : OwnV t (w.setCell ⟨g, 0, none⟩ x) N v xs :=
  OwnV.of_own (ownsRow_setCell_other h.own (by intro e; have := (h.lt e).1; simp at this; omega) x) rfl
theorem Eff.grew {g N : Nat} {O : Option Nat} {v v' : Value} {w w' : World} (hg : Grew N v w w') (hgN : g < N) (hgw : g < w.heap.size) (hO : v.ownBlock = O) (hl : v'.ownBlock = v.ownBlock ∨ ∃ j, v'.ownBlock = some j ∧ w.heap.size ≤ j) : Eff g O v'.ownBlock w w' :=
  ⟨hg.below g w (by omega) (by omega) (Below.refl _ _), hg.size, fun p hp _ hn => hg.cell p hp (by rw [hO]; exact hn), by rw [← hO]; exact hl⟩
/-- The text so far. -/
def QX (g N : Nat) (l : List Int) (O : Option Nat) (w : World) : Prop := ∃ v, One 23 g v w ∧ OwnV 21 w N v (rv l) ∧ v.ownBlock = O ∧ g < N
theorem OwnV.alloc {t : TypeId} {w : World} {b : Nat} {v : Value} {xs : List Value} (h : OwnV t w b v xs) (o : Obj) : OwnV t (w.alloc o) b v xs := h.below ((Below.refl _ _).alloc (Nat.le_refl _) o)

set_option maxHeartbeats 2000000 in
theorem tellSelf_any (g N : Nat) (l : List Int) (d : Nat) (w : World) (v : Value) (n : NT) (O : Option Nat) (hlen : l.length + n.tx.length ≤ 1100000) (hQ0 : QX g N l O w) (hN : N ≤ w.heap.size) (hn : NodeAt d w g v n) :
    Calls Try.prog 57 #[v, .pointer (some ⟨g, 0, none⟩)] w (Did g (QX g N) O (stepX l n) w) := by
  obtain ⟨u, hQ, hu, hO, hgN⟩ := hQ0
  obtain ⟨d', lf, ps, tx, ks, PA, pc, TA, tc, KA, kc, hd', rfl, rfl, hp, ht, hf, hks⟩ := hn.open_
  obtain ⟨A, c, rfl, _, _, _, hu2⟩ := hu.open_at l.length (rv_len l)
  obtain ⟨wb, hwb⟩ : ∃ wb, wb = w.alloc (.cells #[.bool lf, .slice PA ps.length pc, .slice TA tx.length tc, .slice KA ks.length kc] 26) := ⟨_, rfl⟩
  have hQb : One 23 g (.slice A l.length c) wb := hwb ▸ hQ.alloc _
  have hub : OwnV 21 wb N (.slice A l.length c) (rv l) := hwb ▸ hu2.alloc _
  have hgl := lt_of_block hQ
  have hbb : Below w.heap.size w wb := hwb ▸ (Below.refl _ _).alloc (Nat.le_refl _) _
  have htb : VL wb g TA (rv tx) := ht.below (hbb.mono (by omega))
  have x0 := cell_of_one hQb
  have HQ := hd hQb
  have HU := hd hub
  have HT := hd htb
  have HE := hd (show Eff g O O w wb from hwb ▸ (Eff.refl g O w).alloc (by omega) _)
  have hsb := hd (show wb.heap.size = w.heap.size + 1 by rw [hwb]; simp)
  have hl2 : l.length + tx.length ≤ 1100000 := hlen
  have HO := hd hO
  subst hwb
  clear hQ hQb hu hu2 hub hks hp ht hf hn hd' hbb htb hlen hO
  go_enter Try.func57, Try.ntmps57
  go_wp2_with (at_builtin; refine wpList_append_X _ rfl (.tmp 4) (.tmp 6) rfl N (.slice A l.length c) (rv l) (rv tx) rfl HU.out TA tx.length tc g rfl (rv_len tx) HT.out (rv_one tx) (by rw [rv_len, rv_len]; omega) (by rw [hsb.out]; omega) ?_; intro v2 w2 hu2 hg2 hlie; have HQ2 := hd (HQ.out.grew hg2 hgN); have HLIE := hd hlie; have HG2 := hd hg2; clear hlie hg2; obtain ⟨A2, c2, rfl, _, _, _, hu3⟩ := hu2.open_at (l.length + tx.length) (by simp [rv]); have HU3 := hd hu3; clear hu2 hu3; have x1 := cell_of_one HQ2.out; have x2 := free_of_one HQ2.out; have hgl2 := lt_of_block HQ2.out)
  go_ret
  exact ⟨rfl, _, ⟨_, HQ2.out.set _, (by rw [← rv_append] at HU3; exact HU3.out.aside hgN), rfl, hgN⟩, (HE.out.trans (Eff.grew HG2.out hgN (by rw [hsb.out]; omega) HO.out HLIE.out)).setCell _⟩

theorem tellVisit (g N : Nat) (_hgN : g < N) : Visit 57 g N stepX (QX g N) (fun l n => l.length + (textT n).length ≤ 1100000) (fun l ks => l.length + (textK ks).length ≤ 1100000) :=
  ⟨enters_of Try.func57 (by kernel_rfl) rfl, fun _ _ _ h j hj => (by
      obtain ⟨v, _, hv, hO, _⟩ := h
      exact hv.lt (hO.trans hj)), fun _ _ _ o _ h => (by
      obtain ⟨v, h1, hv, hO, hg⟩ := h
      exact ⟨v, h1.alloc o, hv.alloc o, hO, hg⟩), fun l lf ps tx ks h _ => (by
      simp only [stepX, NT.tx, List.length_append]
      simp only [textT, List.length_append] at h
      omega), fun l m r h => (by
      simp only [textK, List.length_append] at h
      refine ⟨by omega, fun _ => ?_⟩
      rw [walk_text]
      simp only [List.length_append]
      omega), fun d w v n l O hp hQ hN hn => tellSelf_any g N l d w v n O (by
        cases n with
        | mk lf ps tx ks =>
          simp only [textT, List.length_append] at hp
          simp only [NT.tx]
          omega) hQ hN hn⟩

set_option maxHeartbeats 1000000 in
theorem text_any (d : Nat) (w : World) (v : Value) (n : NT) (hlen : (textT n).length ≤ 1100000) (hn : NodeAt d w w.heap.size v n) : Calls Try.prog 30 #[v] w (NewI w (textT n)) := by
  have hn0 := hn
  obtain ⟨lf, PA, np, pc, TA, nt, tc, KA, nk, kc, rfl⟩ := hn.val
  obtain ⟨wb, hwb⟩ : ∃ wb, wb = w.alloc (.cells #[.bool lf, .slice PA np pc, .slice TA nt tc, .slice KA nk kc] 26) := ⟨_, rfl⟩
  have hsb : wb.heap.size = w.heap.size + 1 := by rw [hwb]; simp
  have hb1 : Below w.heap.size w wb := hwb ▸ (Below.refl _ _).alloc (Nat.le_refl _) _
  obtain ⟨wc, hwc⟩ : ∃ wc, wc = wb.alloc (.cells #[.slice none 0 0] 23) := ⟨_, rfl⟩
  have hb2 : Below w.heap.size w wc := hwc ▸ hb1.alloc (by omega) _
  have hsc : wc.heap.size = w.heap.size + 1 + 1 := by rw [hwc]; simp; omega
  have hone : One 23 (w.heap.size + 1) (.slice none 0 0) wc := by rw [hwc, ← hsb]; exact One.new _ _ _
  have HC := hd (each_any (Q := QX (w.heap.size + 1)) (s := []) (n := n) (fun N hN => tellVisit (w.heap.size + 1) N (by omega)) (by omega) (by simpa using hlen)
    (fun N wa hN hb => ⟨.slice none 0 0, (hb.block _ (lt_of_block hone)).trans hone, OwnV.nil _ _, rfl, by omega⟩) ((hn0.below hb2).more (by omega)))
  rw [walk_text, List.nil_append] at HC
  have HB := hd hb2
  have HSC := hd hsc
  clear hn hn0 hb1 hb2 hone hlen hsb hsc
  subst hwc hwb
  go_enter Try.func30, Try.ntmps30
  go_wp2_with (first | (refine HC.out.mono ?_; rintro e w' ⟨rfl, O', ⟨u, hq, hu, _, _⟩, ha⟩; have HU := hd hu; have x0 := cell_of_one hq; obtain ⟨A2, c2, rfl, _, _, _, _⟩ := hu.open_at (textT n).length (rv_len _)))
  go_ret
  exact ⟨_, rfl, HU.out.weaken (by rw [HSC.out]; omega), HB.out.trans (ha.mono (by omega))⟩

theorem rcopy_any (A : Option Addr) (l : List Int) (c : Nat) (w : World) (hl : l.length ≤ 1100000) (hp : VL w w.heap.size A (rv l)) :
    Calls Try.prog 36 #[.slice A l.length c] w (NewI w l) := by
  have HP := hd hp
  clear hp
  go_enter Try.func36, Try.ntmps36
  go_wp2_with (at_builtin; refine wpList_append_X w rfl _ _ rfl w.heap.size (.slice none 0 0) [] (rv l) rfl (OwnV.nil _ _) A l.length c w.heap.size rfl (rv_len l) HP.out (rv_one l) (by rw [rv_len]; simp; omega) (Nat.le_refl _) ?_; intro v' w1 ho1 hg1 _)
  go_ret
  exact ⟨v', rfl, by simpa using ho1, hg1.below _ _ (Nat.le_refl _) (Nat.le_refl _) (Below.refl _ _)⟩

end Go.Proofs.Ytggapngibkeodaa

namespace Go.Proofs.Ytggapngibkeodaa
open Go.RowKit

mutual
theorem pathsN_shift (lv : Bool) : ∀ (n : NT) (q r : List Int), pathsN lv n (q ++ r) = (pathsN lv n r).map (q ++ ·)
  | .mk lf _ _ ks, q, r => by
    rw [pathsN, pathsN, List.map_append, pathsK_shift lv ks 0 q r]
    congr 1
    split <;> rfl
theorem pathsK_shift (lv : Bool) : ∀ (ks : List NT) (i : Nat) (q r : List Int), pathsK lv ks i (q ++ r) = (pathsK lv ks i r).map (q ++ ·)
  | [], i, q, r => rfl
  | k :: s, i, q, r => by
    rw [pathsK, pathsK, List.map_append, pathsK_shift lv s (i + 1) q r, List.append_assoc, pathsN_shift lv k q (r ++ [(i : Int)])]
end
theorem pathsN_one (lv : Bool) (n : NT) (i : Nat) : pathsN lv n ([] ++ [(i : Int)]) = (pathsN lv n []).map ((i : Int) :: ·) := by
  have := pathsN_shift lv n [(i : Int)] []
  rw [List.append_nil] at this
  rw [List.nil_append, this]; rfl
mutual
theorem paths_count : ∀ (n : NT) (q : List Int), (pathsN false n q).length + (textT n).length = sizeT n
  | .mk lf _ tx ks, q => by
    have := pathsK_count ks 0 q
    rw [pathsN, textT, sizeT, List.length_append, List.length_append]
    simp; omega
theorem pathsK_count : ∀ (ks : List NT) (i : Nat) (q : List Int), (pathsK false ks i q).length + (textK ks).length = sizeK ks
  | [], i, q => rfl
  | k :: r, i, q => by
    have h1 := paths_count k (q ++ [(i : Int)])
    have h2 := pathsK_count r (i + 1) q
    rw [pathsK, textK, sizeK, List.length_append, List.length_append]; omega
end
/-- Is there a leaf at the path; the same among Kids that are counted from i on. -/
def leafB (n : NT) (p : List Int) : Bool := match getO n p with
  | some x => x.lf
  | none => false
def kidO (ks : List NT) (i : Nat) : List Int → Option NT
  | [] => none
  | a :: r => if (i : Int) ≤ a then (ks[(a - i).toNat]?).bind fun m => getO m r else none
def leafK (ks : List NT) (i : Nat) (p : List Int) : Bool := match kidO ks i p with
  | some x => x.lf
  | none => false
theorem getO_kid (n : NT) (a : Int) (r : List Int) : getO n (a :: r) = kidO n.ks 0 (a :: r) := by
  rw [getO_cons]
  unfold kidO kidT
  simp only [Int.natCast_zero, Int.sub_zero]
  split <;> rfl
theorem kidO_next (k : NT) (s : List NT) (i : Nat) (p : List Int) : kidO (k :: s) i p = match p with
    | [] => none
    | a :: r => if a = (i : Int) then getO k r else kidO s (i + 1) (a :: r) := by
  cases p with
  | nil => rfl
  | cons a r =>
    simp only [kidO]
    by_cases h1 : a = (i : Int)
    · subst h1; simp
    · rw [if_neg h1]
      by_cases h2 : (i : Int) ≤ a
      · rw [if_pos h2, if_pos (by omega), show (a - (i : Int)).toNat = (a - ((i + 1 : Nat) : Int)).toNat + 1 by omega, List.getElem?_cons_succ]
      · rw [if_neg h2, if_neg (by omega)]
/-- Paths of Kids from i on begin with a number from i on. -/
theorem pathsK_head (lv : Bool) : ∀ (ks : List NT) (i : Nat) (p : List Int), p ∈ pathsK lv ks i [] → ∃ a r, p = a :: r ∧ (i : Int) ≤ a
  | [], i, p => fun h => by cases h
  | k :: s, i, p => fun h => by
    rw [pathsK, List.mem_append] at h
    rcases h with h | h
    · rw [pathsN_one] at h
      obtain ⟨r, _, rfl⟩ := List.mem_map.1 h
      exact ⟨_, _, rfl, Int.le_refl _⟩
    · obtain ⟨a, r, e, ha⟩ := pathsK_head lv s (i + 1) p h
      exact ⟨a, r, e, by omega⟩
mutual
theorem paths_just : ∀ (n : NT) (p : List Int), p ∈ pathsN false n [] ↔ (getO n p).isSome = true
  | .mk lf ps tx ks, p => by
    rw [pathsN]
    cases p with
    | nil => simp [getO]
    | cons a r =>
      rw [getO_kid]
      have := pathsK_just ks 0 (a :: r)
      simp only [Bool.not_false, Bool.or_true, if_true, List.mem_append, List.mem_singleton, reduceCtorEq, false_or]
      exact this
theorem pathsK_just : ∀ (ks : List NT) (i : Nat) (p : List Int), p ∈ pathsK false ks i [] ↔ (kidO ks i p).isSome = true
  | [], i, p => by
    cases p with
    | nil => simp [pathsK, kidO]
    | cons a r => simp [pathsK, kidO]
  | k :: s, i, p => by
    rw [pathsK, List.mem_append, pathsN_one, pathsK_just s (i + 1) p, kidO_next]
    cases p with
    | nil => simp [kidO]
    | cons a r =>
      simp only
      by_cases h1 : a = (i : Int)
      · subst h1
        rw [if_pos rfl]
        constructor
        · rintro (h | h)
          · obtain ⟨r', h2, h3⟩ := List.mem_map.1 h
            injection h3 with _ h3
            subst h3
            exact (paths_just k r').1 h2
          · exfalso
            simp only [kidO] at h
            rw [if_neg (by omega)] at h
            cases h
        · intro h
          exact .inl (List.mem_map.2 ⟨r, (paths_just k r).2 h, rfl⟩)
      · rw [if_neg h1]
        constructor
        · rintro (h | h)
          · obtain ⟨r', _, h3⟩ := List.mem_map.1 h
            injection h3 with h3 _
            exact absurd h3.symm h1
          · exact h
        · exact fun h => .inr h
end
theorem filter_eq {α : Type} {f g : α → Bool} {l : List α} (h : ∀ x ∈ l, f x = g x) : l.filter f = l.filter g := List.filter_congr h
mutual
theorem leaves_are : ∀ (n : NT), pathsN true n [] = (pathsN false n []).filter (leafB n)
  | .mk lf ps tx ks => by
    rw [pathsN, pathsN, pathsK_leaves ks 0, List.filter_append]
    congr 1
    · simp only [Bool.not_true, Bool.or_false, Bool.not_false, Bool.or_true, if_true, List.filter_cons, List.filter_nil]
      show _ = if lf = true then _ else _
      rfl
    · refine filter_eq fun p hp => ?_
      obtain ⟨a, r, rfl, _⟩ := pathsK_head false ks 0 p hp
      unfold leafB leafK
      rw [getO_kid]; rfl
theorem pathsK_leaves : ∀ (ks : List NT) (i : Nat), pathsK true ks i [] = (pathsK false ks i []).filter (leafK ks i)
  | [], i => rfl
  | k :: s, i => by
    rw [pathsK, pathsK, List.filter_append, pathsN_one, pathsN_one, leaves_are k, pathsK_leaves s (i + 1), List.filter_map]
    congr 1
    · congr 1
      refine filter_eq fun p _ => ?_
      show leafB k p = leafK (k :: s) i ((i : Int) :: p)
      unfold leafK leafB
      rw [kidO_next]; simp
    · refine filter_eq fun p hp => ?_
      obtain ⟨a, r, rfl, ha⟩ := pathsK_head false s (i + 1) p hp
      unfold leafK
      rw [kidO_next]
      simp only
      rw [if_neg (by omega)]
end
mutual
theorem paths_rise : ∀ (n : NT), (pathsN false n []).Pairwise fun a b => cmpL a b = -1
  | .mk lf ps tx ks => by
    rw [pathsN]
    simp only [Bool.not_false, Bool.or_true, if_true, List.singleton_append]
    refine List.pairwise_cons.2 ⟨fun p hp => ?_, pathsK_rise ks 0⟩
    obtain ⟨a, r, rfl, _⟩ := pathsK_head false ks 0 p hp
    simp [cmpL]
theorem pathsK_rise : ∀ (ks : List NT) (i : Nat), (pathsK false ks i []).Pairwise fun a b => cmpL a b = -1
  | [], i => List.Pairwise.nil
  | k :: s, i => by
    rw [pathsK, pathsN_one]
    refine List.pairwise_append.2 ⟨List.pairwise_map.2 ((paths_rise k).imp fun {a b} h => by rw [cmpL]; simpa using h), pathsK_rise s (i + 1), fun a ha b hb => ?_⟩
    obtain ⟨r, _, rfl⟩ := List.mem_map.1 ha
    obtain ⟨x, r', rfl, hx⟩ := pathsK_head false s (i + 1) b hb
    rw [cmpL, if_pos (by omega)]
end

/-- The same, said of numbers in the list. -/
theorem rise_at {n : NT} {i : Nat} (h : i + 1 < (pathsN false n []).length) : cmpL (lAt (pathsN false n []) i) (lAt (pathsN false n []) (i + 1)) = -1 := by
  rw [lAt_eq _ i (by omega), lAt_eq _ (i + 1) h]
  exact List.pairwise_iff_getElem.1 (paths_rise n) i (i + 1) (by omega) h (by omega)
theorem first_at (n : NT) : 0 < (pathsN false n []).length ∧ lAt (pathsN false n []) 0 = [] := by
  rw [pathsN_eta]
  simp [lAt]
theorem found_at {n : NT} {i : Nat} (h : i < (pathsN false n []).length) : ∃ x, getO n (lAt (pathsN false n []) i) = some x := by
  have := (paths_just n _).1 (List.getElem_mem h)
  rw [lAt_eq _ i h]
  exact Option.isSome_iff_exists.1 this
/-- How many leaves stand ahead of number i. -/
def leavesTo (n : NT) (i : Nat) : Nat := (((pathsN false n []).take i).filter (leafB n)).length
theorem leavesTo_step {n : NT} {i : Nat} (h : i < (pathsN false n []).length) : leavesTo n (i + 1) = leavesTo n i + if leafB n (lAt (pathsN false n []) i) = true then 1 else 0 := by
  unfold leavesTo
  rw [List.take_add_one, List.getElem?_eq_getElem h, List.filter_append, List.length_append, lAt_eq _ i h]
  congr 1
  simp only [Option.toList_some, List.filter_cons, List.filter_nil]
  split <;> rfl
theorem leavesTo_end (n : NT) : leavesTo n (pathsN false n []).length = (pathsN true n []).length := by
  unfold leavesTo; rw [List.take_length, leaves_are]
theorem leavesTo_at {n : NT} {i : Nat} (h : i < (pathsN false n []).length) (hl : leafB n (lAt (pathsN false n []) i) = true) : leavesTo n i < (pathsN true n []).length ∧ lAt (pathsN true n []) (leavesTo n i) = lAt (pathsN false n []) i := by
  have e : pathsN true n [] = ((pathsN false n []).take i).filter (leafB n) ++ (lAt (pathsN false n []) i :: ((pathsN false n []).drop (i + 1)).filter (leafB n)) := by
    rw [leaves_are]
    conv => lhs; rw [← List.take_append_drop i (pathsN false n []), List.drop_eq_getElem_cons h, List.filter_append, List.filter_cons]
    rw [lAt_eq _ i h] at hl ⊢
    rw [if_pos hl]
  have hlen : (pathsN true n []).length = leavesTo n i + 1 + (((pathsN false n []).drop (i + 1)).filter (leafB n)).length := by
    rw [e]; simp [leavesTo]; omega
  refine ⟨by omega, ?_⟩
  rw [lAt_eq _ _ (by omega)]
  have : (pathsN true n [])[leavesTo n i]? = some (lAt (pathsN false n []) i) := by
    rw [e, List.getElem?_append_right (by unfold leavesTo; exact Nat.le_refl _)]
    simp [leavesTo]
  rw [List.getElem?_eq_getElem (by omega)] at this
  injection this
/-- Has the path been met among the first i. -/
def metTo (n : NT) (q : List Int) (i : Nat) : Bool := ((pathsN false n []).take i).any fun p => samI p q
theorem metTo_step {n : NT} {q : List Int} {i : Nat} (h : i < (pathsN false n []).length) : metTo n q (i + 1) = (metTo n q i || samI (lAt (pathsN false n []) i) q) := by
  unfold metTo
  rw [List.take_add_one, List.getElem?_eq_getElem h, List.any_append, lAt_eq _ i h]
  simp
theorem metTo_end (n : NT) (q : List Int) : metTo n q (pathsN false n []).length = (getO n q).isSome := by
  unfold metTo
  rw [List.take_length, Bool.eq_iff_iff, List.any_eq_true, ← paths_just]
  constructor
  · rintro ⟨p, hp, hs⟩
    unfold samI at hs
    rw [← of_decide_eq_true hs]; exact hp
  · intro h
    exact ⟨q, h, by unfold samI; simp⟩

end Go.Proofs.Ytggapngibkeodaa

namespace Go.Proofs.Ytggapngibkeodaa
open Go.RowKit

set_option maxRecDepth 100000 in
set_option maxHeartbeats 4000000 in
theorem tget_big (d : Nat) (w : World) (v : Value) (n : NT) (A : Option Addr) (p : List Int) (lp c : Nat) (hlp : p.length = lp) (hl : lp ≤ 3000000) (hn : NodeAt d w w.heap.size v n) (hp : IL w w.heap.size A p) :
    Calls Try.prog 12 #[v, .slice A lp c] w (NewN (getE n p) w) := by
  obtain ⟨lf, PA, np, pc, TA, nt, tc, KA, nk, kc, rfl⟩ := hn.val
  have HL0 := hd (get_start (p := p) hn)
  have HP := hd hp
  have HLP := hd hlp
  clear hn hp hlp
  go_enter Try.func12, Try.ntmps12
  go_wp2
  go_loopw [10] (fun i wr => ∃ (k : Nat) (lf : Bool) (PA : Option Addr) (np pc : Nat) (TA : Option Addr) (nt tc : Nat) (KA : Option Addr) (nk kc : Nat) (m : NT), k ≤ lp ∧ i = .int .i64 k ∧ Hid (GetLoop w d n p k lf PA np pc TA nt tc KA nk kc m wr)) (fun i _ => lp - (intOf i).toNat)
  case atStart => exact ⟨0, _, _, _, _, _, _, _, _, _, _, n, Nat.zero_le _, rfl, HL0⟩
  case round =>
    clear HL0
    obtain ⟨k, lf, PA, np, pc, TA, nt, tc, KA, nk, kc, m, hk, rfl, HL⟩ := hrel
    have hbr := HL.out.below
    have hsz := hbr.size
    obtain ⟨x0, x1, x2, x3, y0, y1, y2, y3⟩ := blkCells HL.out.var
    obtain ⟨z0, z1, z2, z3, f0, f1, f2, f3⟩ := blkCells HL.out.res
    have hl1 := lt_of_block HL.out.res
    by_cases hlt : k < lp
    · obtain ⟨b, o, rfl, hbl, hc⟩ := (HP.out.below hbr).at_ (k := k) (by rw [HLP.out]; exact hlt)
      obtain ⟨i, hi⟩ : ∃ i, iAt p k = i := ⟨_, rfl⟩
      rw [hi] at hc
      have hnode := HL.out.node
      obtain ⟨d', lf', ps, tx, ks, PA', pc', TA', tc', KA', kc', hd', hm', ev, hps, htx, hfit, hks⟩ := hnode.open_
      simp only [Value.agg.injEq, Array.mk.injEq, List.cons.injEq, Value.bool.injEq, Value.slice.injEq, and_true] at ev
      obtain ⟨rfl, ⟨rfl, rfl, rfl⟩, ⟨rfl, rfl, rfl⟩, rfl, rfl, rfl⟩ := ev
      have hl3 := hfit.2.2.2.1
      cases hb : hasB m i
      · have HE := hd (getE_none (getO_stop (by rw [HLP.out]; exact hlt) HL.out.at_ (by rw [hi]; exact kid_none hb)))
        have HC := hd (haskid_any m i false hb d wr _ ((hnode.more hsz)))
        have HBR := hd hbr
        have HRES := hd HL.out.res
        have hnk : m.ks.length = ks.length := by rw [hm']; rfl
        have hno : i < 0 ∨ 0 ≤ i ∧ (ks.length : Int) ≤ i := by
          rcases (show i < 0 ∨ 0 ≤ i by omega) with h | h
          · exact .inl h
          · refine .inr ⟨h, ?_⟩
            rcases (show (ks.length : Int) ≤ i ∨ i < ks.length by omega) with h2 | h2
            · exact h2
            · rw [hasB_iff.2 ⟨h, by rw [hnk]; exact h2⟩] at hb; cases hb
        clear hnode hps htx hfit hks hb hi hm' hd' hbr hnk
        rcases hno with g1 | ⟨g1, g2⟩
        all_goals
          go_wp2_with (first | (go_at_call 37; refine HC.out.mono ?_; rintro e w2 ⟨rfl, b2⟩; have HR2 := hd (keepBlk HRES.out b2); have hl2 := b2.size; obtain ⟨r0, r1, r2, r3, r4, r5, r6, r7⟩ := blkCells HR2.out))
          have h7 := set4_block (a := .bool false) (b := .slice none 0 0) (c := .slice none 0 0) (d := .slice none 0 0) (by first | exact HR2.out | exact HRES.out)
          obtain ⟨t0, t1, t2, t3, _, _, _, _⟩ := blkCells h7
          refine bodyPost_ret (v := .tuple #[.agg #[.bool false, .slice none 0 0, .slice none 0 0, .slice none 0 0], .int .i64 5]) (by simp [results, Try.results12, go_sem, t0, t1, t2, t3]) rfl (newN_ret HE.out (zero_tree _ 0 _) ?_)
          exact ((((show Below w.heap.size w _ from (by first | exact HBR.out.trans (b2.mono HBR.out.size) | exact HBR.out)).setCell (by show _ ≤ w.heap.size + 1; omega) _).setCell (by show _ ≤ w.heap.size + 1; omega) _).setCell (by show _ ≤ w.heap.size + 1; omega) _).setCell (by show _ ≤ w.heap.size + 1; omega) _
      · have HK := hd (hasB_iff.1 hb)
        obtain ⟨j, hj⟩ : ∃ j : Nat, i = (j : Int) := ⟨i.toNat, by have := HK.out; omega⟩
        subst hj
        have hj1 : j < ks.length := by have := HK.out; rw [hm'] at this; simp only [NT.ks] at this; omega
        have HC := hd (haskid_any m (j : Int) true hb d wr _ ((hnode.more hsz)))
        have HKS := hd hks
        have HI := hd hi
        have HM := hd hm'
        have HD := hd hd'
        have HBR := hd hbr
        clear hnode hps htx hfit hks hb hi hm' hd' z0 z1 z2 z3 f0 f1 f2 f3 hbr
        have HVAR := hd HL.out.var
        obtain ⟨m2, b', o', lf2, PA2, np2, pc2, TA2, nt2, tc2, KA2, nk2, kc2, hm2, rfl, hbg2, hnm2, c0, c1, c2, c3⟩ := HKS.out.at_ hj1
        have hg := hd (show getO n (p.take (k + 1)) = some m2 by rw [getO_take_step (by rw [HLP.out]; exact hlt) HL.out.at_, HI.out]; unfold kidT; rw [if_pos (by omega), HM.out]; exact hm2)
        have HN2 := hd (hnm2.deep (d' := d) (by have := HD.out; omega))
        have HM2 := hd hm2
        clear hnm2 hm2
        go_wp2_with (first | (go_at_call 37; refine HC.out.mono ?_; rintro e w2 ⟨rfl, b2⟩; have hl2 := b2.size; obtain ⟨u0, u1, u2, u3, u4, u5, u6, u7⟩ := blkCells (keepBlk HVAR.out b2); have e0 := (b2.cell (cell_in c0)).trans c0; have e1 := (b2.cell (cell_in c1)).trans c1; have e2 := (b2.cell (cell_in c2)).trans c2; have e3 := (b2.cell (cell_in c3)).trans c3; clear c0 c1 c2 c3 x0 x1 x2 x3 y0 y1 y2 y3))
        go_roundw
        case rel => exact ⟨k + 1, _, _, _, _, _, _, _, _, _, _, m2, by omega, by go_num, hd (get_step HL.out (by first | exact b2 | exact Below.refl _ _) hg.out (by first | exact HN2.out.below (b2.mono hsz) | exact HN2.out))⟩
        case measure => simp [intOf]; omega
    · have HE := hd (getE_some (n := n) (m := m) (p := p) (by have := HL.out.at_; rwa [List.take_of_length_le (by rw [HLP.out]; omega)] at this))
      have HRES := hd HL.out.res
      have HBR := hd hbr
      have HN := hd (HL.out.node.more hsz)
      clear z0 z1 z2 z3 f0 f1 f2 f3 hbr
      go_wp2_with (first | (go_at_call 38; refine Calls.mono (copy_any _ _ _ _ HN.out) ?_; intro e w4 h4; obtain ⟨v4, rfl, ht4, hb4⟩ := h4; obtain ⟨lf4, PA4, np4, pc4, TA4, nt4, tc4, KA4, nk4, kc4, rfl⟩ := (ht4.at_ (B := w4.heap.size) (fun b hb => hb.2)).val; have HR4 := hd (keepBlk HRES.out hb4); obtain ⟨r0, r1, r2, r3, r4, r5, r6, r7⟩ := blkCells HR4.out; have HT4 := hd ht4; have HB4 := hd hb4; have hl4 := hb4.size; clear ht4 hb4))
      have h7 := set4_block (a := .bool lf4) (b := .slice PA4 np4 pc4) (c := .slice TA4 nt4 tc4) (d := .slice KA4 nk4 kc4) HR4.out
      obtain ⟨t0, t1, t2, t3, _, _, _, _⟩ := blkCells h7
      have hb7 : Below w.heap.size w w4 := HBR.out.trans (HB4.out.mono HBR.out.size)
      refine bodyPost_ret (v := .tuple #[.agg #[.bool lf4, .slice PA4 np4 pc4, .slice TA4 nt4 tc4, .slice KA4 nk4 kc4], .int .i64 0]) (by simp [results, Try.results12, go_sem, t0, t1, t2, t3]) rfl (newN_ret (d := d) HE.out (HT4.out.keep (fun b hb => by simp; omega) (fun p hp => ?_)) ?_)
      · have hne : p.block ≠ w.heap.size + 1 := by omega
        constructor
        · iterate 4 rw [World.cell?_setCell_other _ _ _ _ (by intro e; exact hne (by rw [← e]))]
        · iterate 4 rw [World.frozen?_of_block (Below.heap_setCell _ _ _ _ (by simpa using hne))]
      · exact (((hb7.setCell (by show _ ≤ w.heap.size + 1; omega) _).setCell (by show _ ≤ w.heap.size + 1; omega) _).setCell (by show _ ≤ w.heap.size + 1; omega) _).setCell (by show _ ≤ w.heap.size + 1; omega) _
theorem get_big {w : World} {v : Value} {n x : NT} {er : Int} {A : Option Addr} {p : List Int} {lp c : Nat} (hr : getE n p = (x, er)) (hlp : p.length = lp) (hl : lp ≤ 3000000) (hn : At w v n) (hp : IL w w.heap.size A p) : Calls Try.prog 12 #[v, .slice A lp c] w (NewN (x, er) w) := by
  obtain ⟨d, hn⟩ := hn
  rw [← hr]; exact tget_big d w v n A p lp c hlp hl hn hp
theorem fewW (d : Nat) (n : NT) (m : Int) (F : Bool) (hm : In64 m) (hF : fewB m n = F) {w : World} {v : Value} (hn : NodeAt d w w.heap.size v n) : Calls Try.prog 21 #[v, .int .i64 m] w (Still (.bool F) w) := by
  subst hF; exact few_any d w v n m hm hn
theorem size_is (d : Nat) (n : NT) (z : Int) (hz : wrap64 (sizeT n) = z) {w : World} {v : Value} (hn : NodeAt d w w.heap.size v n) : Calls Try.prog 31 #[v] w (Still (.int .i64 z) w) := by
  subst hz; exact size_any d w v n hn
theorem cmp_still {w : World} {A B : Option Addr} {l m : List Int} {a b c d : Nat} {r : Int} (hr : cmpL l m = r) (ha : l.length = a) (hb : m.length = b) (hl : a ≤ 3000000) (hm : b ≤ 3000000) (hp : IL w w.heap.size A l) (hq : IL w w.heap.size B m) : Calls Try.prog 32 #[.slice A a c, .slice B b d] w (Still (.int .i64 r) w) := by
  subst hr ha hb; exact calls_still (compare_any A B l m c d w (by omega) (by omega) hp hq)
theorem sam_still {w : World} {A B : Option Addr} {l m : List Int} {a b c d : Nat} {r : Bool} (hr : samI l m = r) (ha : l.length = a) (hb : m.length = b) (hl : a ≤ 3000000) (hm : b ≤ 3000000) (hp : IL w w.heap.size A l) (hq : IL w w.heap.size B m) : Calls Try.prog 28 #[.slice A a c, .slice B b d] w (Still (.bool r) w) := by
  subst hr ha hb; exact calls_still (isame_any A B l m c d w (by omega) (by omega) hp hq)

set_option maxRecDepth 100000 in
set_option maxHeartbeats 4000000 in
theorem torder_few (w : World) (v : Value) (n : NT) (A : Option Addr) (q : List Int) (lq c : Nat) (hF : fewB 120 n = false) (hn : At w v n) (hq : IL w w.heap.size A q) : Calls Try.prog 7 #[v, .slice A lq c] w (Still (.bool true) w) := by
  obtain ⟨d, hn⟩ := hn
  obtain ⟨lf, PA, np, pc, TA, nt, tc, KA, nk, kc, rfl⟩ := hn.val
  have hb := alloc_below w (.cells #[.bool lf, .slice PA np pc, .slice TA nt tc, .slice KA nk kc] 26)
  have hx := heap_alloc_new w (.cells #[.bool lf, .slice PA np pc, .slice TA nt tc, .slice KA nk kc] 26)
  have HB := hd hb
  have HX := hd hx
  have HW := hd hn
  have HQ := hd hq
  clear hn hb hx hq
  have HFF := hd hF
  clear hF
  go_enter Try.func7, Try.ntmps7
  go_wp2_with (first
    | (go_at_call 21; refine Calls.mono (fewW d n 120 false (by unfold In64; omega) HFF.out (HW.out.later HB1.out)) ?_; rintro e w2 ⟨rfl, hb2⟩; have HB2 := hd (HB1.out.trans (hb2.mono HB1.out.size)); have HX2 := hd (keepBlk HX1.out hb2); clear hb2 n0 n1 n2 n3; obtain ⟨n0, n1, n2, n3, -⟩ := blkCells HX2.out)
    | (go_at_call 9; refine Calls.mono (live5_any _) ?_; rintro e w1 ⟨rfl, hb1⟩; have HB1 := hd (HB.out.trans (hb1.mono HB.out.size)); have HX1 := hd (keepBlk HX.out hb1); obtain ⟨n0, n1, n2, n3, -⟩ := blkCells HX1.out; clear hb1))
  go_ret
  exact ⟨rfl, HB2.out⟩
set_option maxRecDepth 100000 in
set_option maxHeartbeats 4000000 in
theorem torder_long (w : World) (v : Value) (n : NT) (A : Option Addr) (q : List Int) (lq c : Nat) (hF : fewB 120 n = true) (h50 : 50 < lq) (hl1 : lq ≤ 9223372036854775807) (hn : At w v n) (hq : IL w w.heap.size A q) : Calls Try.prog 7 #[v, .slice A lq c] w (Still (.bool true) w) := by
  obtain ⟨d, hn⟩ := hn
  obtain ⟨lf, PA, np, pc, TA, nt, tc, KA, nk, kc, rfl⟩ := hn.val
  have hb := alloc_below w (.cells #[.bool lf, .slice PA np pc, .slice TA nt tc, .slice KA nk kc] 26)
  have hx := heap_alloc_new w (.cells #[.bool lf, .slice PA np pc, .slice TA nt tc, .slice KA nk kc] 26)
  have HB := hd hb
  have HX := hd hx
  have HW := hd hn
  have HQ := hd hq
  clear hn hb hx hq
  have HFF := hd hF
  clear hF
  have h51 : decide (50 < lq) = true := decide_eq_true h50
  go_enter Try.func7, Try.ntmps7
  go_wp2_with (first
    | (go_at_call 21; refine Calls.mono (fewW d n 120 true (by unfold In64; omega) HFF.out (HW.out.later HB1.out)) ?_; rintro e w2 ⟨rfl, hb2⟩; have HB2 := hd (HB1.out.trans (hb2.mono HB1.out.size)); have HX2 := hd (keepBlk HX1.out hb2); clear hb2 n0 n1 n2 n3; obtain ⟨n0, n1, n2, n3, -⟩ := blkCells HX2.out)
    | (go_at_call 9; refine Calls.mono (live5_any _) ?_; rintro e w1 ⟨rfl, hb1⟩; have HB1 := hd (HB.out.trans (hb1.mono HB.out.size)); have HX1 := hd (keepBlk HX.out hb1); obtain ⟨n0, n1, n2, n3, -⟩ := blkCells HX1.out; clear hb1))
  go_ret
  exact ⟨rfl, HB2.out⟩

set_option maxRecDepth 100000 in
set_option maxHeartbeats 16000000 in
theorem torder_main (w : World) (v : Value) (n : NT) (A : Option Addr) (q : List Int) (lq c : Nat) (hlq : q.length = lq) (hF : fewB 120 n = true) (h50 : lq ≤ 50) (hsz : sizeT n ≤ 1048576) (hn : At w v n) (hq : IL w w.heap.size A q) : Calls Try.prog 7 #[v, .slice A lq c] w (Still (.bool true) w) := by
  obtain ⟨d, hn⟩ := hn
  obtain ⟨lf, PA, np, pc, TA, nt, tc, KA, nk, kc, rfl⟩ := hn.val
  have hb := alloc_below w (.cells #[.bool lf, .slice PA np pc, .slice TA nt tc, .slice KA nk kc] 26)
  have hx := heap_alloc_new w (.cells #[.bool lf, .slice PA np pc, .slice TA nt tc, .slice KA nk kc] 26)
  have HB := hd hb
  have HX := hd hx
  have HW := hd hn
  have HQ := hd hq
  clear hn hb hx hq
  have HFF := hd hF
  have HLQ := hd hlq
  have h51 : decide (50 < lq) = false := decide_eq_false (by omega)
  have hz : sizeT n ≤ 1800000 := by omega
  obtain ⟨N1, hN1⟩ : ∃ N1, N1 = (pathsN false n []).length := ⟨_, rfl⟩
  obtain ⟨N2, hN2⟩ : ∃ N2, N2 = (pathsN true n []).length := ⟨_, rfl⟩
  obtain ⟨tl, htl⟩ : ∃ tl, tl = (textT n).length := ⟨_, rfl⟩
  have hcount := paths_count n []
  rw [← hN1, ← htl] at hcount
  have hpos := first_at n
  rw [← hN1] at hpos
  have HFST := hd hpos.2
  have hp1 : 0 < N1 := hpos.1
  have hn1 : N1 ≤ 1048576 := by omega
  have hn2 : N2 ≤ 1048576 := by rw [hN2]; have := pathsN_len true n []; omega
  have ht1 : tl ≤ 1048576 := by omega
  have HN1 := hd hN1
  have HN2 := hd hN2
  have HTL := hd htl
  have HCN := hd hcount
  have HBP := hd (paths_bound (lv := false) hz)
  have HBL := hd (paths_bound (lv := true) hz)
  clear hF hlq hN1 hN2 htl hcount hpos
  go_enter Try.func7, Try.ntmps7
  go_upto_region 7 with (first
    | (go_at_call 25; refine Calls.mono (wleaves_any d w3 _ n (HW.out.later HB3.out) hz) ?_; rintro e w4 ⟨A4, c4, rfl, hq4, hb4⟩; rw [← HN2.out] at hq4 ⊢; have HR4 := hd hq4.rl; have HP4 := hd (HR3.out.later hb4); have HB4 := hd (HB3.out.trans (hb4.mono HB3.out.size)); have HX4 := hd (keepBlk HX3.out hb4); clear hb4 hq4 n0 n1 n2 n3)
    | (go_at_call 23; refine Calls.mono (wpaths_any d w2 _ n (HW.out.later HB2.out) hz) ?_; rintro e w3 ⟨A3, c3, rfl, hq3, hb3⟩; rw [← HN1.out] at hq3 ⊢; have HR3 := hd hq3.rl; have HB3 := hd (HB2.out.trans (hb3.mono HB2.out.size)); have HX3 := hd (keepBlk HX2.out hb3); clear hb3 hq3 n0 n1 n2 n3; obtain ⟨n0, n1, n2, n3, -⟩ := blkCells HX3.out)
    | (go_at_call 21; refine Calls.mono (fewW d n 120 true (by unfold In64; omega) HFF.out (HW.out.later HB1.out)) ?_; rintro e w2 ⟨rfl, hb2⟩; have HB2 := hd (HB1.out.trans (hb2.mono HB1.out.size)); have HX2 := hd (keepBlk HX1.out hb2); clear hb2 n0 n1 n2 n3; obtain ⟨n0, n1, n2, n3, -⟩ := blkCells HX2.out)
    | (go_at_call 9; refine Calls.mono (live5_any _) ?_; rintro e w1 ⟨rfl, hb1⟩; have HB1 := hd (HB.out.trans (hb1.mono HB.out.size)); have HX1 := hd (keepBlk HX.out hb1); obtain ⟨n0, n1, n2, n3, -⟩ := blkCells HX1.out; clear hb1))
  obtain ⟨n0, n1, n2, n3, -⟩ := blkCells HX4.out
  obtain ⟨b5, o5, A0, c0, rfl, hb5, hc5, _, _⟩ := HP4.out.at_ (k := 0) (by rw [← HN1.out]; exact hp1)
  rw [HFST.out, Nat.add_zero] at hc5
  have hn0 : ((N1 : Int) == 0) = false := by simp; omega
  have hne : ((N1 : Int) + (tl : Int) != (N1 : Int) + (tl : Int)) = false := by simp
  have hw1 : IntKind.i64.wrap ((N1 : Int) + (tl : Int)) = (N1 : Int) + (tl : Int) := IntWalk.i64_in _ (by omega)
  have hsum : wrap64 (sizeT n) = (N1 : Int) + (tl : Int) := by rw [wrap_id _ (by omega) (by omega), ← HCN.out, Int.natCast_add]
  have HSM := hd hsum
  have HMK := hd (show ∀ W, Below w4.heap.size w4 W → (Below w4.heap.size w4 W ∧ W.cell? ⟨w.heap.size, 0, none⟩ = some (.bool lf) ∧ W.cell? ⟨w.heap.size, 1, none⟩ = some (.slice PA np pc) ∧ W.cell? ⟨w.heap.size, 2, none⟩ = some (.slice TA nt tc) ∧ W.cell? ⟨w.heap.size, 3, none⟩ = some (.slice KA nk kc) ∧ W.cell? ⟨b5, o5, none⟩ = some (.slice A0 0 c0)) from fun W h =>
    ⟨h, (h.cell (cell_in n0)).trans n0, (h.cell (cell_in n1)).trans n1, (h.cell (cell_in n2)).trans n2, (h.cell (cell_in n3)).trans n3, (h.cell (cell_in hc5)).trans hc5⟩)
  have HSa := hd (HMK.out w4.drew (Below.refl _ _).drew)
  have HMT := hd ht1
  clear ht1
  go_cut [5, 6, 49] (fun s5 s6 s49 wx => s5 = .slice (some ⟨b5, o5, none⟩) N1 c3 ∧ s6 = .slice A4 N2 c4 ∧ s49 = .bool false ∧ Hid (Below w4.heap.size w4 wx))
  case first =>
    go_region_held3 (fun W => Below w4.heap.size w4 W ∧ W.cell? ⟨w.heap.size, 0, none⟩ = some (.bool lf) ∧ W.cell? ⟨w.heap.size, 1, none⟩ = some (.slice PA np pc) ∧ W.cell? ⟨w.heap.size, 2, none⟩ = some (.slice TA nt tc) ∧ W.cell? ⟨w.heap.size, 3, none⟩ = some (.slice KA nk kc) ∧ W.cell? ⟨b5, o5, none⟩ = some (.slice A0 0 c0))
      (first
        | (with_reducible exact HS6)
        | (with_reducible exact HS5)
        | (with_reducible exact HSa.out))
      (first
        | (go_at_call 31; refine Calls.mono (size_is d n _ HSM.out (HW.out.later (HB4.out.trans (HBW5.out.mono HB4.out.size)))) ?_; rintro e w6 ⟨rfl, b6⟩; have hbw6 := HBW5.out.trans (b6.mono HBW5.out.size); have HS6 := HMK.out w6 hbw6; have HBW6 := hd hbw6; clear hbw6 b6)
        | (go_at_call 30; refine Calls.mono (text_any d _ _ n (by rw [← HTL.out]; exact Nat.le_trans HMT.out (by decide)) (HW.out.later (HB4.out.trans ((Below.refl _ _).drew.mono HB4.out.size)))) ?_; intro e w5 h5; obtain ⟨A5, c5, rfl, _, _, _, b5'⟩ := h5.own tl HTL.out.symm; have hbw5 : Below w4.heap.size w4 w5 := (Below.refl _ _).drew.trans b5'; have HS5 := HMK.out w5 hbw5; have HBW5 := hd hbw5; clear hbw5 b5'))
    go_wp2_with fail
    go_meet
    exact ⟨rfl, rfl, rfl, HBW6⟩
  case rest =>
    obtain ⟨rfl, rfl, rfl, HBC⟩ := hcut
    clear hw1 hsum hne hn0 n0 n1 n2 n3 hc5 HMK HSa
    have HB5 := hd (HB4.out.trans (HBC.out.mono HB4.out.size))
    have HX5 := hd (keepBlk HX4.out HBC.out)
    have HP5 := hd (HP4.out.later HBC.out)
    have HR5 := hd (HR4.out.later HBC.out)
    go_wp2_with fail
    go_loopw [7, 8, 52] (fun a m i wr => ∃ (k ak : Nat) (mk : Bool), k ≤ N1 ∧ i = .int .i64 k ∧ a = .int .i64 ak ∧ m = .bool mk ∧ Hid (ak = leavesTo n k ∧ mk = metTo n q k ∧ Below wc.heap.size wc wr)) (fun _ _ i _ => N1 - (intOf i).toNat)
    case atStart => exact ⟨0, 0, false, Nat.zero_le _, rfl, rfl, rfl, rfl, rfl, Below.refl _ _⟩
    case round =>
      obtain ⟨k, ak, mk, hk, rfl, rfl, rfl, HR⟩ := hrel
      have hbr := HB5.out.trans (HR.out.2.2.mono HB5.out.size)
      have hzr := HR.out.2.2.size
      by_cases hlt : k < N1
      · obtain ⟨b7, o7, Ak, ck, e7, hb7, hck, hcl, hik⟩ := (HP5.out.later HR.out.2.2).at_ (k := k) (by rw [← HN1.out]; exact hlt)
        injection e7 with e7
        injection e7 with e8 e9
        subst e8 e9
        obtain ⟨x, hx⟩ := found_at (n := n) (i := k) (by rw [← HN1.out]; exact hlt)
        have hstep := leavesTo_step (n := n) (i := k) (by rw [← HN1.out]; exact hlt)
        have hmet := metTo_step (n := n) (q := q) (i := k) (by rw [← HN1.out]; exact hlt)
        have hleaf : leafB n (lAt (pathsN false n []) k) = x.lf := by unfold leafB; rw [hx]
        have hbl := HBP.out.2 k (by rw [← HN1.out]; exact hlt)
        have hla := fun h => leavesTo_at (n := n) (i := k) (by rw [← HN1.out]; exact hlt) h
        have hri := fun j (e : k = j + 1) => rise_at (n := n) (i := j) (by rw [← HN1.out]; omega)
        rw [hleaf] at hstep hla
        obtain ⟨pk, hpk⟩ : ∃ pk, pk = lAt (pathsN false n []) k := ⟨_, rfl⟩
        rw [← hpk] at hx hmet hck hcl hik hbl
        simp only [← hpk] at hla
        obtain ⟨lk, hlk⟩ : ∃ lk, pk.length = lk := ⟨_, rfl⟩
        rw [hlk] at hck hcl hbl
        obtain ⟨sm, hsm⟩ : ∃ sm, samI pk q = sm := ⟨_, rfl⟩
        rw [hsm, ← HR.out.2.1] at hmet
        rw [← HR.out.1] at hstep hla
        obtain ⟨kx, hkx⟩ : ∃ kx, x.ks.length = kx := ⟨_, rfl⟩
        have HG := hd (getE_some hx)
        have HLK := hd hlk
        have HSM := hd hsm
        have HKX := hd hkx
        have HIK := hd hik
        have HMT2 := hd hmet
        have HXR := hd (keepBlk HX5.out HR.out.2.2)
        have HBR := hd hbr
        have HVR := hd (HR5.out.later HR.out.2.2)
        have HPR := hd (HP5.out.later HR.out.2.2)
        have hcb := hb7
        obtain ⟨n0, n1, n2, n3, -⟩ := blkCells HXR.out
        clear hx hlk hsm hkx hik hmet hbr hleaf
        rcases k with _ | j
        · clear hri
          rw [Nat.add_zero] at hck
          have HBA := hd (Below.refl wr.heap.size wr)
          have hza : wr.heap.size ≤ wr.heap.size := Nat.le_refl _
          cases hxl : x.lf with
          | true =>
            have HXL := hd hxl
            rw [hxl] at hstep hla
            obtain ⟨hl1, hl2⟩ := hla rfl
            rw [← HN2.out] at hl1
            obtain ⟨b8, o8, Aa, ca, ea, hb8, hca, _, hia⟩ := HVR.out.at_ (k := ak) (by rw [← HN2.out]; exact hl1)
            rw [hl2] at hca hia
            have HIV := hd hia
            have HLV := hd HLK.out
            rw [HLK.out] at hca
            have HVA := hd hca
            have HSV := hd (show samI pk pk = true by unfold samI; simp)
            have han : ((ak : Int) == (N2 : Int)) = false := by simp; omega
            subst ea
            have hst : leavesTo n (0 + 1) = ak + 1 := by simpa using hstep
            clear hia hl2 hca
            have HST := hd hst
            have HFN := hd hxl
            clear hst hstep hxl hla hpk hcl hb7 hcb
            cases mk
            · go_wp2_with (first
                | (go_at_call 28; have _g := HBS; clear _g; refine Calls.mono (sam_still HSM.out HLK.out HLQ.out hbl (by omega) (HIK.out.later HBS.out) ((HQ.out.later HBR.out).later HBS.out)) ?_; rintro e wt ⟨rfl, hbt⟩; have HBT := hd (HBS.out.trans (hbt.mono HBS.out.size)); clear hbt)
                | (go_at_call 28; have _g := HBG; clear _g; refine Calls.mono (sam_still HSV.out HLV.out HLK.out hbl hbl (HIV.out.later HBG.out) (HIK.out.later HBG.out)) ?_; rintro e ws ⟨rfl, hbs⟩; have HBS := hd (HBG.out.trans (hbs.mono hzg)); have hzs := HBS.out.size; clear hbs)
                | (go_at_call 12; refine Calls.mono (get_big HG.out HLK.out hbl (At.later ⟨d, HW.out⟩ (HBR.out.trans (HBA.out.mono HBR.out.size))) (HIK.out.later HBA.out)) ?_; intro e wg hg; obtain ⟨PAg, npg, pcg, TAg, ntg, tcg, KAg, kcg, rfl, -, hbg⟩ := hg.opnF HXL.out HKX.out; have hbg1 : Below wr.heap.size wr (wg.alloc (.cells #[.bool true, .slice PAg npg pcg, .slice TAg ntg tcg, .slice KAg kx kcg] 26)) := (HBA.out.trans (hbg.mono hza)).alloc (Nat.le_trans hza hbg.size) _; have HBG := hd hbg1; have hzg := hbg1.size; obtain ⟨u0, u1, u2, u3, -⟩ := blkCells (heap_alloc_new wg (.cells #[.bool true, .slice PAg npg pcg, .slice TAg ntg tcg, .slice KAg kx kcg] 26)); have hva := (hbg1.cell (cell_in HVA.out)).trans HVA.out; clear hbg hbg1 n0 n1 n2 n3))
              go_roundw
              case rel => exact ⟨0 + 1, ak + 1, sm, by omega, by go_num, by go_num, rfl, hd ⟨HST.out.symm, by rw [HMT2.out]; rfl, HR.out.2.2.trans (HBT.out.mono hzr)⟩⟩
              case measure => simp [intOf]; omega
            · go_wp2_with (first
                | (go_at_call 28; have _g := HBG; clear _g; refine Calls.mono (sam_still HSV.out HLV.out HLK.out hbl hbl (HIV.out.later HBG.out) (HIK.out.later HBG.out)) ?_; rintro e ws ⟨rfl, hbs⟩; have HBS := hd (HBG.out.trans (hbs.mono hzg)); have hzs := HBS.out.size; clear hbs)
                | (go_at_call 12; refine Calls.mono (get_big HG.out HLK.out hbl (At.later ⟨d, HW.out⟩ (HBR.out.trans (HBA.out.mono HBR.out.size))) (HIK.out.later HBA.out)) ?_; intro e wg hg; obtain ⟨PAg, npg, pcg, TAg, ntg, tcg, KAg, kcg, rfl, -, hbg⟩ := hg.opnF HXL.out HKX.out; have hbg1 : Below wr.heap.size wr (wg.alloc (.cells #[.bool true, .slice PAg npg pcg, .slice TAg ntg tcg, .slice KAg kx kcg] 26)) := (HBA.out.trans (hbg.mono hza)).alloc (Nat.le_trans hza hbg.size) _; have HBG := hd hbg1; have hzg := hbg1.size; obtain ⟨u0, u1, u2, u3, -⟩ := blkCells (heap_alloc_new wg (.cells #[.bool true, .slice PAg npg pcg, .slice TAg ntg tcg, .slice KAg kx kcg] 26)); have hva := (hbg1.cell (cell_in HVA.out)).trans HVA.out; clear hbg hbg1 n0 n1 n2 n3))
              go_roundw
              case rel => exact ⟨0 + 1, ak + 1, true, by omega, by go_num, by go_num, rfl, hd ⟨HST.out.symm, by rw [HMT2.out]; rfl, HR.out.2.2.trans (HBS.out.mono hzr)⟩⟩
              case measure => simp [intOf]; omega
          | false =>
            have HXL := hd hxl
            rw [hxl] at hstep hla
            have hst : leavesTo n (0 + 1) = ak := by simpa using hstep
            have HST := hd hst
            have HFN := hd hxl
            clear hst hstep hxl hla hpk hcl hb7 hcb
            cases mk
            · go_wp2_with (first
                | (go_at_call 28; have _g := HBG; clear _g; refine Calls.mono (sam_still HSM.out HLK.out HLQ.out hbl (by omega) (HIK.out.later HBG.out) ((HQ.out.later HBR.out).later HBG.out)) ?_; rintro e wt ⟨rfl, hbt⟩; have HBT := hd (HBG.out.trans (hbt.mono HBG.out.size)); clear hbt)
                | (go_at_call 12; refine Calls.mono (get_big HG.out HLK.out hbl (At.later ⟨d, HW.out⟩ (HBR.out.trans (HBA.out.mono HBR.out.size))) (HIK.out.later HBA.out)) ?_; intro e wg hg; obtain ⟨PAg, npg, pcg, TAg, ntg, tcg, KAg, kcg, rfl, -, hbg⟩ := hg.opnF HXL.out HKX.out; have hbg1 : Below wr.heap.size wr (wg.alloc (.cells #[.bool false, .slice PAg npg pcg, .slice TAg ntg tcg, .slice KAg kx kcg] 26)) := (HBA.out.trans (hbg.mono hza)).alloc (Nat.le_trans hza hbg.size) _; have HBG := hd hbg1; have hzg := hbg1.size; obtain ⟨u0, u1, u2, u3, -⟩ := blkCells (heap_alloc_new wg (.cells #[.bool false, .slice PAg npg pcg, .slice TAg ntg tcg, .slice KAg kx kcg] 26)); clear hbg hbg1 n0 n1 n2 n3))
              go_roundw
              case rel => exact ⟨0 + 1, ak, sm, by omega, by go_num, rfl, rfl, hd ⟨HST.out.symm, by rw [HMT2.out]; rfl, HR.out.2.2.trans (HBT.out.mono hzr)⟩⟩
              case measure => simp [intOf]; omega
            · go_wp2_with (first
                | (go_at_call 12; refine Calls.mono (get_big HG.out HLK.out hbl (At.later ⟨d, HW.out⟩ (HBR.out.trans (HBA.out.mono HBR.out.size))) (HIK.out.later HBA.out)) ?_; intro e wg hg; obtain ⟨PAg, npg, pcg, TAg, ntg, tcg, KAg, kcg, rfl, -, hbg⟩ := hg.opnF HXL.out HKX.out; have hbg1 : Below wr.heap.size wr (wg.alloc (.cells #[.bool false, .slice PAg npg pcg, .slice TAg ntg tcg, .slice KAg kx kcg] 26)) := (HBA.out.trans (hbg.mono hza)).alloc (Nat.le_trans hza hbg.size) _; have HBG := hd hbg1; have hzg := hbg1.size; obtain ⟨u0, u1, u2, u3, -⟩ := blkCells (heap_alloc_new wg (.cells #[.bool false, .slice PAg npg pcg, .slice TAg ntg tcg, .slice KAg kx kcg] 26)); clear hbg hbg1 n0 n1 n2 n3))
              go_roundw
              case rel => exact ⟨0 + 1, ak, true, by omega, by go_num, rfl, rfl, hd ⟨HST.out.symm, by rw [HMT2.out]; rfl, HR.out.2.2.trans (HBG.out.mono hzr)⟩⟩
              case measure => simp [intOf]; omega
        · have HCM := hd (show cmpL (lAt (pathsN false n []) j) pk = -1 by rw [hpk]; exact hri j rfl)
          clear hri
          obtain ⟨b7, o7, Aj, cj, e7, _, hcj, _, hij⟩ := HPR.out.at_ (k := j) (by rw [← HN1.out]; omega)
          injection e7 with e7
          injection e7 with e8 e9
          subst e8 e9
          have hbj := HBP.out.2 j (by rw [← HN1.out]; omega)
          obtain ⟨lj, hlj⟩ : ∃ lj, (lAt (pathsN false n []) j).length = lj := ⟨_, rfl⟩
          rw [hlj] at hcj hbj
          have HLJ := hd hlj
          have HIJ := hd hij
          clear hlj hij
          have hwj : IntKind.i64.wrap (j : Int) = (j : Int) := IntWalk.i64_in _ (by omega)
          have hj0 : (0 : Int) ≤ (j : Int) := by omega
          have hjn : (j : Int) < (N1 : Int) := by omega
          have hjp : decide ((0 : Int) < (j : Int) + 1) = true := decide_eq_true (by omega)
          cases hxl : x.lf with
          | true =>
            have HXL := hd hxl
            rw [hxl] at hstep hla
            obtain ⟨hl1, hl2⟩ := hla rfl
            rw [← HN2.out] at hl1
            obtain ⟨b8, o8, Aa, ca, ea, hb8, hca, _, hia⟩ := HVR.out.at_ (k := ak) (by rw [← HN2.out]; exact hl1)
            rw [hl2] at hca hia
            have HIV := hd hia
            have HLV := hd HLK.out
            rw [HLK.out] at hca
            have HVA := hd hca
            have HSV := hd (show samI pk pk = true by unfold samI; simp)
            have han : ((ak : Int) == (N2 : Int)) = false := by simp; omega
            subst ea
            have hst : leavesTo n (j + 1 + 1) = ak + 1 := by simpa using hstep
            clear hia hl2 hca
            have HST := hd hst
            have HFN := hd hxl
            clear hst hstep hxl hla hpk hcl hb7 hcb
            cases mk
            · go_wp2_with (first
                | (go_at_call 28; have _g := HBS; clear _g; refine Calls.mono (sam_still HSM.out HLK.out HLQ.out hbl (by omega) (HIK.out.later HBS.out) ((HQ.out.later HBR.out).later HBS.out)) ?_; rintro e wt ⟨rfl, hbt⟩; have HBT := hd (HBS.out.trans (hbt.mono HBS.out.size)); clear hbt)
                | (go_at_call 28; have _g := HBG; clear _g; refine Calls.mono (sam_still HSV.out HLV.out HLK.out hbl hbl (HIV.out.later HBG.out) (HIK.out.later HBG.out)) ?_; rintro e ws ⟨rfl, hbs⟩; have HBS := hd (HBG.out.trans (hbs.mono hzg)); have hzs := HBS.out.size; clear hbs)
                | (go_at_call 12; refine Calls.mono (get_big HG.out HLK.out hbl (At.later ⟨d, HW.out⟩ (HBR.out.trans (HBA.out.mono HBR.out.size))) (HIK.out.later HBA.out)) ?_; intro e wg hg; obtain ⟨PAg, npg, pcg, TAg, ntg, tcg, KAg, kcg, rfl, -, hbg⟩ := hg.opnF HXL.out HKX.out; have hbg1 : Below wr.heap.size wr (wg.alloc (.cells #[.bool true, .slice PAg npg pcg, .slice TAg ntg tcg, .slice KAg kx kcg] 26)) := (HBA.out.trans (hbg.mono hza)).alloc (Nat.le_trans hza hbg.size) _; have HBG := hd hbg1; have hzg := hbg1.size; obtain ⟨u0, u1, u2, u3, -⟩ := blkCells (heap_alloc_new wg (.cells #[.bool true, .slice PAg npg pcg, .slice TAg ntg tcg, .slice KAg kx kcg] 26)); have hva := (hbg1.cell (cell_in HVA.out)).trans HVA.out; clear hbg hbg1 n0 n1 n2 n3)
                | (go_at_call 32; refine Calls.mono (cmp_still HCM.out HLJ.out HLK.out hbj hbl HIJ.out HIK.out) ?_; rintro e wa ⟨rfl, hba⟩; have HBA := hd hba; have hza := hba.size; have HXA := hd (keepBlk HXR.out hba); clear hba n0 n1 n2 n3 hck hcj; obtain ⟨n0, n1, n2, n3, -⟩ := blkCells HXA.out))
              go_roundw
              case rel => exact ⟨j + 1 + 1, ak + 1, sm, by omega, by go_num, by go_num, rfl, hd ⟨HST.out.symm, by rw [HMT2.out]; rfl, HR.out.2.2.trans (HBT.out.mono hzr)⟩⟩
              case measure => simp [intOf]; omega
            · go_wp2_with (first
                | (go_at_call 28; have _g := HBG; clear _g; refine Calls.mono (sam_still HSV.out HLV.out HLK.out hbl hbl (HIV.out.later HBG.out) (HIK.out.later HBG.out)) ?_; rintro e ws ⟨rfl, hbs⟩; have HBS := hd (HBG.out.trans (hbs.mono hzg)); have hzs := HBS.out.size; clear hbs)
                | (go_at_call 12; refine Calls.mono (get_big HG.out HLK.out hbl (At.later ⟨d, HW.out⟩ (HBR.out.trans (HBA.out.mono HBR.out.size))) (HIK.out.later HBA.out)) ?_; intro e wg hg; obtain ⟨PAg, npg, pcg, TAg, ntg, tcg, KAg, kcg, rfl, -, hbg⟩ := hg.opnF HXL.out HKX.out; have hbg1 : Below wr.heap.size wr (wg.alloc (.cells #[.bool true, .slice PAg npg pcg, .slice TAg ntg tcg, .slice KAg kx kcg] 26)) := (HBA.out.trans (hbg.mono hza)).alloc (Nat.le_trans hza hbg.size) _; have HBG := hd hbg1; have hzg := hbg1.size; obtain ⟨u0, u1, u2, u3, -⟩ := blkCells (heap_alloc_new wg (.cells #[.bool true, .slice PAg npg pcg, .slice TAg ntg tcg, .slice KAg kx kcg] 26)); have hva := (hbg1.cell (cell_in HVA.out)).trans HVA.out; clear hbg hbg1 n0 n1 n2 n3)
                | (go_at_call 32; refine Calls.mono (cmp_still HCM.out HLJ.out HLK.out hbj hbl HIJ.out HIK.out) ?_; rintro e wa ⟨rfl, hba⟩; have HBA := hd hba; have hza := hba.size; have HXA := hd (keepBlk HXR.out hba); clear hba n0 n1 n2 n3 hck hcj; obtain ⟨n0, n1, n2, n3, -⟩ := blkCells HXA.out))
              go_roundw
              case rel => exact ⟨j + 1 + 1, ak + 1, true, by omega, by go_num, by go_num, rfl, hd ⟨HST.out.symm, by rw [HMT2.out]; rfl, HR.out.2.2.trans (HBS.out.mono hzr)⟩⟩
              case measure => simp [intOf]; omega
          | false =>
            have HXL := hd hxl
            rw [hxl] at hstep hla
            have hst : leavesTo n (j + 1 + 1) = ak := by simpa using hstep
            have HST := hd hst
            have HFN := hd hxl
            clear hst hstep hxl hla hpk hcl hb7 hcb
            cases mk
            · go_wp2_with (first
                | (go_at_call 28; have _g := HBG; clear _g; refine Calls.mono (sam_still HSM.out HLK.out HLQ.out hbl (by omega) (HIK.out.later HBG.out) ((HQ.out.later HBR.out).later HBG.out)) ?_; rintro e wt ⟨rfl, hbt⟩; have HBT := hd (HBG.out.trans (hbt.mono HBG.out.size)); clear hbt)
                | (go_at_call 12; refine Calls.mono (get_big HG.out HLK.out hbl (At.later ⟨d, HW.out⟩ (HBR.out.trans (HBA.out.mono HBR.out.size))) (HIK.out.later HBA.out)) ?_; intro e wg hg; obtain ⟨PAg, npg, pcg, TAg, ntg, tcg, KAg, kcg, rfl, -, hbg⟩ := hg.opnF HXL.out HKX.out; have hbg1 : Below wr.heap.size wr (wg.alloc (.cells #[.bool false, .slice PAg npg pcg, .slice TAg ntg tcg, .slice KAg kx kcg] 26)) := (HBA.out.trans (hbg.mono hza)).alloc (Nat.le_trans hza hbg.size) _; have HBG := hd hbg1; have hzg := hbg1.size; obtain ⟨u0, u1, u2, u3, -⟩ := blkCells (heap_alloc_new wg (.cells #[.bool false, .slice PAg npg pcg, .slice TAg ntg tcg, .slice KAg kx kcg] 26)); clear hbg hbg1 n0 n1 n2 n3)
                | (go_at_call 32; refine Calls.mono (cmp_still HCM.out HLJ.out HLK.out hbj hbl HIJ.out HIK.out) ?_; rintro e wa ⟨rfl, hba⟩; have HBA := hd hba; have hza := hba.size; have HXA := hd (keepBlk HXR.out hba); clear hba n0 n1 n2 n3 hck hcj; obtain ⟨n0, n1, n2, n3, -⟩ := blkCells HXA.out))
              go_roundw
              case rel => exact ⟨j + 1 + 1, ak, sm, by omega, by go_num, rfl, rfl, hd ⟨HST.out.symm, by rw [HMT2.out]; rfl, HR.out.2.2.trans (HBT.out.mono hzr)⟩⟩
              case measure => simp [intOf]; omega
            · go_wp2_with (first
                | (go_at_call 12; refine Calls.mono (get_big HG.out HLK.out hbl (At.later ⟨d, HW.out⟩ (HBR.out.trans (HBA.out.mono HBR.out.size))) (HIK.out.later HBA.out)) ?_; intro e wg hg; obtain ⟨PAg, npg, pcg, TAg, ntg, tcg, KAg, kcg, rfl, -, hbg⟩ := hg.opnF HXL.out HKX.out; have hbg1 : Below wr.heap.size wr (wg.alloc (.cells #[.bool false, .slice PAg npg pcg, .slice TAg ntg tcg, .slice KAg kx kcg] 26)) := (HBA.out.trans (hbg.mono hza)).alloc (Nat.le_trans hza hbg.size) _; have HBG := hd hbg1; have hzg := hbg1.size; obtain ⟨u0, u1, u2, u3, -⟩ := blkCells (heap_alloc_new wg (.cells #[.bool false, .slice PAg npg pcg, .slice TAg ntg tcg, .slice KAg kx kcg] 26)); clear hbg hbg1 n0 n1 n2 n3)
                | (go_at_call 32; refine Calls.mono (cmp_still HCM.out HLJ.out HLK.out hbj hbl HIJ.out HIK.out) ?_; rintro e wa ⟨rfl, hba⟩; have HBA := hd hba; have hza := hba.size; have HXA := hd (keepBlk HXR.out hba); clear hba n0 n1 n2 n3 hck hcj; obtain ⟨n0, n1, n2, n3, -⟩ := blkCells HXA.out))
              go_roundw
              case rel => exact ⟨j + 1 + 1, ak, true, by omega, by go_num, rfl, rfl, hd ⟨HST.out.symm, by rw [HMT2.out]; rfl, HR.out.2.2.trans (HBG.out.mono hzr)⟩⟩
              case measure => simp [intOf]; omega
      · obtain rfl : k = N1 := by omega
        have hall := HR.out.1
        rw [HN1.out, leavesTo_end, ← HN2.out] at hall
        have hmm := HR.out.2.1
        rw [HN1.out, metTo_end] at hmm
        have HXR := hd (keepBlk HX5.out HR.out.2.2)
        obtain ⟨n0, n1, n2, n3, -⟩ := blkCells HXR.out
        have HBR := hd hbr
        clear hbr
        subst hall
        cases hgo : getO n q with
        | none =>
          rw [hgo] at hmm
          have hm9 : mk = false := hmm
          subst hm9
          have HG := hd (getE_none hgo)
          clear hmm hgo
          go_wp2_with (first
            | (go_at_call 12; refine Calls.mono (get_big HG.out HLQ.out (by omega) (At.later ⟨d, HW.out⟩ HBR.out) (HQ.out.later HBR.out)) ?_; intro e w9 h9; obtain ⟨lf9, PA9, np9, pc9, TA9, nt9, tc9, KA9, nk9, kc9, rfl, -, hb9⟩ := h9.opn; have HB9 := hd (HBR.out.trans (hb9.mono HBR.out.size)); have hz9 := HB9.out.size; clear hb9 n0 n1 n2 n3))
          go_ret
          exact ⟨rfl, HB9.out.alloc hz9 _⟩
        | some y =>
          rw [hgo] at hmm
          have hm9 : mk = true := hmm
          subst hm9
          have HG := hd (getE_some hgo)
          clear hmm hgo
          go_wp2_with (first
            | (go_at_call 12; refine Calls.mono (get_big HG.out HLQ.out (by omega) (At.later ⟨d, HW.out⟩ HBR.out) (HQ.out.later HBR.out)) ?_; intro e w9 h9; obtain ⟨lf9, PA9, np9, pc9, TA9, nt9, tc9, KA9, nk9, kc9, rfl, -, hb9⟩ := h9.opn; have HB9 := hd (HBR.out.trans (hb9.mono HBR.out.size)); have hz9 := HB9.out.size; clear hb9 n0 n1 n2 n3))
          go_ret
          exact ⟨rfl, HB9.out.alloc hz9 _⟩

theorem torder_law (w : World) (v : Value) (n : NT) (A : Option Addr) (q : List Int) (c : Nat) (hl1 : q.length ≤ 9223372036854775807) (_hc1 : q.length ≤ c) (hsz : sizeT n ≤ 1048576) (hn : At w v n) (hq : IL w w.heap.size A q) : Calls Try.prog 7 #[v, .slice A q.length c] w (Still (.bool true) w) := by
  cases hF : fewB 120 n with
  | false => exact torder_few w v n A q _ c hF hn hq
  | true =>
    by_cases h50 : q.length ≤ 50
    · exact torder_main w v n A q _ c rfl hF h50 hsz hn hq
    · exact torder_long w v n A q _ c hF (by omega) hl1 hn hq

end Go.Proofs.Ytggapngibkeodaa

namespace Go.Proofs.Ytggapngibkeodaa
open Go.ChangeShapes Go.WideShapes Go.ChangeAt Go.RowKit

set_option maxRecDepth 100000 in
theorem treeOrder_lifted (os : Os) (started : os.Started) (H : Type) (enc : TypeId × Value → H) (F : Stop.Interp) :
    ReturnsInHanded {} Try.checked os 7 .any ((Rows.OpenSpec.upto Rows.treeOrderSpec).pre6 enc Try.prog Try.f7 Rows.treeOrderUptoRow.domain false) (((Rows.OpenSpec.upto Rows.treeOrderSpec).at F).post enc Try.prog Try.f7 false true false false) := by
  refine returnsInHanded_of_cond_sized (C := Try.checked) (s := (Rows.OpenSpec.upto Rows.treeOrderSpec)) (k := Rows.uptoSmall) rfl own started (by kernel_rfl) Try.func7
    (OpenSpec.witness (enc := enc) (C := Try.checked) (s := (Rows.OpenSpec.upto Rows.treeOrderSpec)) (k := Rows.uptoSmall) rfl false ⟨#[], #[.agg #[.bool false, .slice none 0 0, .slice none 0 0, .slice none 0 0], .slice none 0 0], []⟩ 8 (by kernel_rfl) (by kernel_rfl) (by kernel_rfl)
      (x := ([.agg [.lit (.bool false), .nil, .nil, .nil], .nil], [], [])) (by kernel_rfl) rfl (by kernel_rfl)) ?_
  intro W base args ds gs before hval0 hW _ hk hsz _
  have hval : ∀ (j : Nat) t v, Try.f7.params[j]? = some t → args[j]? = some v → Value.okWide Try.prog W .any base t v := hval0
  have hW' := hW
  obtain ⟨p, q, hA0, hV, rfl, _, _⟩ := hW
  have hA : DataW.TrodAll enc Try.prog W 0 (fun _ => true) true Try.f7.params.toList args.toList ds p := hA0
  rw [Try.params7] at hA hval
  obtain ⟨v0, v1, d0, d1, p0, p1, rfl, rfl, rfl, h0, h1⟩ := trodAll_two hA
  obtain ⟨rfl, rfl⟩ := trodVars_none hV
  clear hA0 hval0
  simp only [List.append_nil] at hW' hk
  have hlt : ∀ x ∈ p0 ++ p1, x.block < W.heap.size := fun x hx => by simpa using hW'.lt x (by simpa using hx)
  have k0 : ∀ W', Below W.heap.size W W' → DataW.Trod enc Try.prog W' 0 (fun b => decide (b < W.heap.size)) true 26 v0 d0 p0 := fun W' hb =>
    Below.trod laidOut (by kernel_rfl) (of_decide_eq_true (by kernel_rfl)) h0 hb fun x hx => hlt x (by simp [hx])
  have k1 : ∀ W', Below W.heap.size W W' → DataW.Trod enc Try.prog W' 0 (fun b => decide (b < W.heap.size)) true 27 v1 d1 p1 := fun W' hb =>
    Below.trod laidOut (by kernel_rfl) (of_decide_eq_true (by kernel_rfl)) h1 hb fun x hx => hlt x (by simp [hx])
  have w0 : ∀ n ∈ d0.weights Try.prog 26, n ≤ reachBytes := fun n hn => by
    have := List.all_eq_true.1 hsz n (DataW.weights_mem_each (j := 0) rfl rfl n hn)
    simpa using this
  obtain ⟨f0, n0, q0, s0, t0⟩ := open_tree (hval 0 26 v0 rfl rfl) h0 w0
  obtain ⟨A1, l1, c1, rfl, m1, o1, i1, q1⟩ := open_path (hval 1 27 v1 rfl rfl) h1
  have hbk : Rows.uptoBulkAll [d0, d1] ≤ 1048576 := of_decide_eq_true hk
  simp only [Rows.uptoBulkAll] at hbk
  refine (torder_law W v0 n0 A1 l1 c1 m1 o1 (by omega) ⟨f0, q0⟩ q1).mono fun e W' ⟨he, hb⟩ => ?_
  subst he
  refine ⟨_, rfl, _, _, _, [], p0 ++ p1, [], hW', ?_, ?_, rfl, hb.frame _, fun h => by cases h⟩
  · exact trodAll_mk1 (shut_bool Try.underlying4 true)
  · exact trodAll_mk2 (k0 _ hb) (k1 _ hb)

theorem treeOrder_holds : Rows.TreeOrderUptoSaid :=
  OpenClaim.holds_of_cond 7 Try.f7 rfl rfl rfl rfl rfl rfl rfl ⟨rfl, rfl, rfl, rfl, rfl⟩ rfl rfl rfl rfl rfl (by kernel_rfl) Try.func7 (by kernel_rfl)
    (of_decide_eq_true (by kernel_rfl)) (by unfold Func.isWrapper; first | (rw [if_pos (by decide +kernel)]; kernel_rfl) | (rw [if_neg (by decide +kernel)]; exact ⟨rfl, rfl⟩))
    (fun os started H enc _ F => treeOrder_lifted os started H enc F)
#print axioms treeOrder_holds

end Go.Proofs.Ytggapngibkeodaa
