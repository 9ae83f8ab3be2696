/- The reader of a text: a property, a node's properties, its text, a node's beginning. -/
import Derived.Test.YtknkclbjocfhiaaDoorCRead
import Derived.Test.YtknkclbjocfhiaaDoorCRow
import Derived.Test.YtknkclbjocfhiaaDoorPBase
import Derived.Test.YtknkclbjocfhiaaDoorGUnqs
namespace Go.Proofs.YtknkclbjocfhiaaDoor
open Go.RowKit

theorem chk_mem {l : List Pr} (h : chk l = 0) : ∀ p ∈ l, keyB p.1 = true ∧ valB p.2 = true := fun p hp => by
  obtain ⟨k, hk, rfl⟩ := List.mem_iff_getElem.1 hp
  have e : l.take (k + 1) = l.take k ++ [l[k]] := by rw [List.take_add_one, List.getElem?_eq_getElem hk]; rfl
  have h1 : chk (l.take (k + 1) ++ l.drop (k + 1)) = 0 := by rw [List.take_append_drop]; exact h
  have h2 := chk_prefix h1
  rw [e] at h2
  exact chk_last h2
set_option maxRecDepth 4000 in
theorem chk_wide {l : List Pr} (h : chk l = 0) (p : Pr) (h1 : p.1.size ≤ 1000000) (h2 : p.2.size ≤ 1000000) : Wide (l ++ [p]) := by
  have hl := chk_len h
  refine ⟨by simp; omega, fun q hq => ?_⟩
  rcases List.mem_append.1 hq with hq | hq
  · obtain ⟨a, b⟩ := chk_mem h q hq
    have := (keyB_parts a).2.1
    have := (valB_parts b).1
    omega
  · rw [List.mem_singleton] at hq; subst hq; omega
set_option maxRecDepth 4000 in
theorem mkB_empty (l : List UInt8) : (mkB l).toList.isEmpty = l.isEmpty := by rw [ByteArray.toList_eq, mkB_data]
set_option maxRecDepth 4000 in
theorem rowPL {w : World} {B n c : Nat} {A : Option Addr} {ps : List Pr} (h : w.ownsRow B 50 2 (.slice A n c) n (pv ps)) : PL w w.heap.size A ps :=
  (rowVP (P := fun b => b < w.heap.size) h fun g hg => (h.lt g hg).2).pl fun _ hb => hb

set_option maxRecDepth 4000 in
theorem row_off {w w' : World} {B R C : Nat} {t : TypeId} {size n : Nat} {v : Value} {xs : List Value} (h : w.ownsRow B t size v n xs) (hR : R < B) (ho : OffB R C w w') (hC : C = w.heap.size := by rfl) : w'.ownsRow B t size v n xs := by
  subst hC
  refine ⟨h.1, ?_⟩
  rcases h.2 with h4 | ⟨g, cap, cur, e2, hbg, hg, rest⟩
  · exact .inl h4
  · exact .inr ⟨g, cap, cur, e2, hbg, by rw [ho.block g (Array.getElem?_eq_some_iff.1 hg).1 (by omega)]; exact hg, rest⟩

/-- What oneMore leaves: below B nothing but the reader has changed. -/
def More (B R : Nat) (s : ByteArray) (ps : List Pr) (r : Res Pr) (w : World) (e : Ending) (w' : World) : Prop :=
  OffB R B w w' ∧ match r with
  | .bad p er => e = .returned (.tuple #[.slice none 0 0, .int .i64 er]) ∧ Rd R s p w'
  | .ok p j => Rd R s j w' ∧ ∃ A c, e = .returned (.tuple #[.slice A (ps.length + 1) c, .int .i64 0]) ∧ w'.ownsRow B 50 2 (.slice A (ps.length + 1) c) (ps.length + 1) (pv (ps ++ [p]))

set_option maxRecDepth 4000 in
set_option maxHeartbeats 8000000 in
theorem oneMore_any (B R : Nat) (s : ByteArray) (i : Nat) (w : World) (A : Option Addr) (c : Nat) (ps : List Pr) (h : Rd R s i w) (hi : i ≤ s.size) (hs : s.size ≤ 1000000) (hrow : w.ownsRow B 50 2 (.slice A ps.length c) ps.length (pv ps)) (hps : chk ps = 0) (hR : R < B) (hB : B ≤ w.heap.size) :
    Calls Tryd.prog 88 #[.pointer (some ⟨R, 0, none⟩), .slice A ps.length c] w (More B R s ps (propP s.data.toList ps i) w) := by
  have hl16 := chk_len hps
  obtain ⟨x0, x1, x2⟩ := h.cells
  have HC1 := hd (wordKey_any R s i w h hi hs)
  obtain ⟨j, hj⟩ : ∃ j, j = endL isLet s.data.toList i := ⟨_, rfl⟩
  have hj1 : i ≤ j := by rw [hj]; exact endL_ge _ _ _
  have hj2 : j ≤ s.size := by rw [hj]; exact endB_le hi
  rw [← hj] at HC1
  obtain ⟨K, hK⟩ : ∃ K, K = mkB (cutS s.data.toList i j) := ⟨_, rfl⟩
  rw [← hK] at HC1
  have hKs : K.size = j - i := by rw [hK]; exact mkB_cut_size s i j hj2
  have hKe : K.toList.isEmpty = decide (j = i) := by
    rw [hK, mkB_empty]
    have := cutS_len s.data.toList i j (by rw [data_size]; exact hj2)
    cases hc : cutS s.data.toList i j with
    | nil => rw [hc] at this; simp at this; simp; omega
    | cons a l => rw [hc] at this; simp at this; simp; omega
  have HR := hd h
  have HW := hd hrow
  have HP := hd hps
  have HJ := hd hj
  have HKK := hd hK
  clear h hrow hps hK
  by_cases hji : j = i
  · have hF : propP s.data.toList ps i = .bad i 11 := by unfold propP; rw [if_pos (by rw [← hj]; exact hji)]
    rw [hF]
    have hKe2 : K.toList.isEmpty = true := by rw [hKe]; simp [hji]
    clear hj hKe hF
    go_enter Tryd.func88, Tryd.ntmps88
    go_wp2_with fail
    refine HC1.out.mono ?_
    rintro e w1 ⟨rfl, hr1, ho1⟩
    go_wp2
    go_ret2
    exact ⟨ho1.less hB, rfl, hji ▸ hr1⟩
  · have hKe2 : K.toList.isEmpty = false := by rw [hKe]; simp [hji]
    by_cases h58 : atB s j = some 58
    · obtain ⟨m, hm⟩ : ∃ m, m = endL isVal s.data.toList (j + 1) := ⟨_, rfl⟩
      have hjl := atB_lt h58
      have hm1 : j + 1 ≤ m := by rw [hm]; exact endL_ge _ _ _
      have hm2 : m ≤ s.size := by rw [hm]; exact endB_le hjl
      obtain ⟨V, hV⟩ : ∃ V, V = mkB (cutS s.data.toList (j + 1) m) := ⟨_, rfl⟩
      have hVs : V.size = m - (j + 1) := by rw [hV]; exact mkB_cut_size s _ m hm2
      have HPr := hd (show prOf s.data.toList i = (K, V) by unfold prOf; rw [← hj, ← hm, HKK.out, hV])
      have HWd := hd (chk_wide HP.out (K, V) (by show K.size ≤ _; omega) (by show V.size ≤ _; omega))
      obtain ⟨E, hE⟩ : ∃ E, E = chk (ps ++ [(K, V)]) := ⟨_, rfl⟩
      have HF := hd (show propP s.data.toList ps i = if E ≠ 0 then .bad i E else .ok (K, V) m by
        unfold propP
        rw [if_neg (by rw [← hj]; exact hji), ← hj, if_neg (by rw [show s.data.toList[j]? = some 58 from h58]; simp), HPr.out, ← hE, ← hm])
      have H58 := hd h58
      have HE := hd hE
      have HM := hd hm
      have HV := hd hV
      clear hj hKe hV hm h58 hE
      go_enter Tryd.func88, Tryd.ntmps88
      go_wp2_with fail
      refine HC1.out.mono ?_
      rintro e w1 ⟨rfl, hr1, ho1⟩
      have hz1 := ho1.size
      have HO1 := hd (ho1.less hB)
      have HW1 := hd (row_off HW.out hR ho1)
      have HC2 := hd (take_yes R s j 58 58 rfl w1 hr1 hs H58.out)
      clear hr1 ho1
      go_wp2_with fail
      refine HC2.out.mono ?_
      rintro e w2 ⟨rfl, hr2, ho2⟩
      have hz2 := ho2.size
      have HO2 := hd (HO1.out.trans (ho2.less (by omega)))
      have HW2 := hd (row_off HW1.out hR ho2)
      have HC3 := hd (wordVal_any R s (j + 1) w2 hr2 hjl hs)
      rw [← HM.out, ← HV.out] at HC3
      clear hr2 ho2
      go_wp2_with fail
      refine HC3.out.mono ?_
      rintro e w3 ⟨rfl, hr3, ho3⟩
      have hz3 := ho3.size
      have HO3 := hd (HO2.out.trans (ho3.less (by omega)))
      have HW3 := hd (row_off HW2.out hR ho3)
      have HR3 := hd hr3
      clear hr3 ho3 HC1 HC2 HC3
      have one : ∀ u ∈ [Value.string K, .string V], u.oneCell' = true := by intro u hu; simp at hu; rcases hu with rfl | rfl <;> rfl
      go_wp2_with (at_builtin; refine wpList_app1 propG w3 rfl (.tmp 22) (.tmp 27) rfl B (.slice A ps.length c) ps.length (pv ps) [.string K, .string V] rfl HW3.out rfl rfl one (by omega) (by decide) (by omega) ?_; intro A4 c4 w4 hown4 hgrow4 hat4)
      have e4 : pv ps ++ [Value.string K, .string V] = pv (ps ++ [(K, V)]) := by simp [pv]
      rw [e4] at hown4
      have hg4 : ∀ g, (Value.slice A ps.length c).ownBlock = some g → B ≤ g := fun g e => (HW3.out.lt g e).1
      have hz4 := hgrow4.size
      have ho4 : OffB R B w w4 := by
        have h3 := HO3.out.alloc (.cells #[.string K, .string V] 50) (by omega)
        refine ⟨hgrow4.os.trans h3.os, hgrow4.tape.trans h3.tape, hgrow4.output.trans h3.output, Nat.le_trans h3.size hz4, fun k hk hr => ?_⟩
        exact (grown_off (R := R) hgrow4 (by simp; omega) hg4 k hk hr).trans (h3.block k hk hr)
      have hr4 : Rd R s m w4 := by
        refine ⟨?_⟩
        rw [hgrow4.block R (by have := HR3.out.lt; simp; omega) (fun e => by have := hg4 R e.symm; omega), Below.heap_alloc _ _ _ HR3.out.lt]
        exact HR3.out.blk
      have HC4 := hd (pcheck_any A4 (ps ++ [(K, V)]) c4 w4 HWd.out (rowPL hown4))
      rw [← HE.out, List.length_append] at HC4
      have HC4 := hd HC4.out
      have HR4 := hd hr4
      have HO4 := hd ho4
      have HW4 := hd hown4
      have hz4' : w3.heap.size ≤ w4.heap.size := by simp at hz4; omega
      clear e4 hown4 hgrow4 hat4 hg4 ho4 hr4 HW3 HR3 one hz4
      go_wp2_with fail
      refine HC4.out.mono ?_
      rintro e w5 ⟨rfl, hb5⟩
      have hz5 := hb5.size
      have HR5 := hd (HR4.out.below hb5)
      have HO5 := hd (HO4.out.trans (.of_below hb5 (by omega)))
      have HW5 := hd (row_off (R := R) HW4.out hR (.of_below hb5 (Nat.le_refl _)))
      clear hb5
      obtain ⟨y0, y1, y2⟩ := HR5.out.cells
      by_cases hE0 : E = 0
      · have HF2 := hd (show propP s.data.toList ps i = .ok (K, V) m by rw [HF.out, if_neg (by simp [hE0])])
        have hEb : (E != 0) = false := by simp [hE0]
        clear hE0
        go_wp2
        go_ret2
        rw [HF2.out]
        exact ⟨HO5.out, HR5.out, A4, c4, rfl, HW5.out⟩
      · have HF2 := hd (show propP s.data.toList ps i = .bad i E by rw [HF.out, if_pos hE0])
        have hEb : (E != 0) = true := by simpa using hE0
        clear hE0
        go_wp2
        go_ret2
        rw [HF2.out]
        exact ⟨HO5.out.set 1 _, rfl, HR5.out.set i⟩
    · have hF : propP s.data.toList ps i = .bad j 11 := by
        unfold propP
        rw [if_neg (by rw [← hj]; exact hji), ← hj, if_pos (show s.data.toList[j]? ≠ some 58 from h58)]
      rw [hF]
      have H58 := hd h58
      clear hj hKe hF h58
      go_enter Tryd.func88, Tryd.ntmps88
      go_wp2_with fail
      refine HC1.out.mono ?_
      rintro e w1 ⟨rfl, hr1, ho1⟩
      have hz1 := ho1.size
      have HC2 := hd (take_no R s j 58 58 rfl w1 hr1 hs H58.out)
      have HR1 := hd hr1
      have HO1 := hd ho1
      clear hr1 ho1
      go_wp2_with fail
      refine HC2.out.mono ?_
      rintro e w2 ⟨rfl, kd, rfl⟩
      go_wp2
      go_ret2
      exact ⟨(HO1.out.less hB).drewN _, rfl, HR1.out.drewN _⟩

/-- What props leaves. -/
def Propd (B R : Nat) (s : ByteArray) (r : Res (List Pr)) (w : World) (e : Ending) (w' : World) : Prop :=
  OffB R B w w' ∧ match r with
  | .bad p er => e = .returned (.tuple #[.slice none 0 0, .int .i64 er]) ∧ Rd R s p w'
  | .ok l j => Rd R s j w' ∧ ∃ A c, e = .returned (.tuple #[.slice A l.length c, .int .i64 0]) ∧ w'.ownsRow B 50 2 (.slice A l.length c) l.length (pv l)
set_option maxRecDepth 4000 in
theorem propP_ok' {s : ByteArray} {ps : List Pr} {i : Nat} {p : Pr} {m : Nat} (h : propP s.data.toList ps i = .ok p m) : chk (ps ++ [p]) = 0 ∧ i + 1 < m ∧ m ≤ s.size := by
  have := propP_ok h
  have hl := data_size s
  exact ⟨this.2.2.2.2.1, this.2.2.2.2.2.1, by omega⟩

set_option maxRecDepth 4000 in
set_option maxHeartbeats 8000000 in
theorem props_any (B R : Nat) (s : ByteArray) (i : Nat) (w : World) (h : Rd R s i w) (hi : i ≤ s.size) (hs : s.size ≤ 1000000) (hR : R < B) (hB : B ≤ w.heap.size) :
    Calls Tryd.prog 74 #[.pointer (some ⟨R, 0, none⟩)] w (Propd B R s (propsP s.data.toList [] i) w) := by
  have HR := hd h
  clear h
  go_enter Tryd.func74, Tryd.ntmps74
  go_wp2_with fail
  go_loopw [2, 3] (fun x y wr => ∃ (ps : List Pr) (k : Nat) (A : Option Addr) (c : Nat), x = .slice A ps.length c ∧ y = .int .i64 0 ∧ k ≤ s.size ∧ Hid (Rd R s k wr) ∧ Hid (wr.ownsRow B 50 2 (.slice A ps.length c) ps.length (pv ps)) ∧ Hid (chk ps = 0) ∧ Hid (propsP s.data.toList [] i = propsP s.data.toList ps k) ∧ Hid (OffB R B w wr)) (fun _ _ wr => s.size + 1 - rpos R wr)
  case atStart => exact ⟨[], i, none, 0, rfl, rfl, hi, HR, World.ownsRow_nil _ _ _ _, rfl, rfl, OffB.refl _ _ _⟩
  case round =>
    obtain ⟨ps, k, A, c, rfl, rfl, hk, HK, HW, HP, HE, HO⟩ := hrel
    have hpos := HK.out.rpos_eq
    have hzr := HO.out.size
    have HC := hd (oneMore_any B R s k wr A c ps HK.out hk hs HW.out HP.out hR (by omega))
    cases hp : propP s.data.toList ps k with
    | bad p er =>
      have HF := hd (HE.out.trans (propsP_bad hp))
      have hne := (propP_bad (by rw [data_size]; exact hk) hp).2
      have hb : (er != 0) = true := by simpa using hne
      rw [hp] at HC
      have HC := hd HC.out
      clear hp HE HW HP hne
      go_wp2_with fail
      refine HC.out.mono ?_
      intro e w1 h1
      obtain ⟨ho1, rfl, hr1⟩ := h1
      go_wp2
      go_ret2
      rw [HF.out]
      exact ⟨HO.out.trans ho1, rfl, hr1⟩
    | ok p m =>
      obtain ⟨hc1, hm1, hm2⟩ := propP_ok' hp
      have HS := hd (HE.out.trans (propsP_step hp))
      have HC1 := hd hc1
      rw [hp] at HC
      have HC := hd HC.out
      clear hp HE HW HP hc1
      go_wp2_with fail
      refine HC.out.mono ?_
      intro e w1 h1
      obtain ⟨ho1, hr1, A1, c1, rfl, hw1⟩ := h1
      have HO1 := hd (HO.out.trans ho1)
      have HR1 := hd hr1
      have HW1 := hd hw1
      have hz1 := ho1.size
      clear ho1 hr1 hw1
      by_cases h125 : atB s m = some 125
      · have HF := hd (show propsP s.data.toList [] i = .ok (ps ++ [p]) (m + 1) by rw [HS.out, if_pos (show s.data.toList[m]? = some 125 from h125)])
        have HC2 := hd (take_yes R s m 125 125 rfl w1 HR1.out hs h125)
        clear h125
        go_wp2_with fail
        refine HC2.out.mono ?_
        rintro e w2 ⟨rfl, hr2, ho2⟩
        go_wp2
        go_ret2
        rw [HF.out]
        exact ⟨HO1.out.trans (ho2.less (by omega)), hr2, A1, c1, by simp, by have := row_off HW1.out hR ho2; simpa using this⟩
      · have HC2 := hd (take_no R s m 125 125 rfl w1 HR1.out hs h125)
        go_wp2_with fail
        refine HC2.out.mono ?_
        rintro e w2 ⟨rfl, kd, rfl⟩
        have hr2 := HR1.out.drewN kd
        have HR2 := hd hr2
        by_cases h44 : atB s m = some 44
        · have HF := hd (show propsP s.data.toList [] i = propsP s.data.toList (ps ++ [p]) (m + 1) by rw [HS.out, if_neg (show ¬ s.data.toList[m]? = some 125 from h125), if_pos (show s.data.toList[m]? = some 44 from h44)])
          have hml := atB_lt h44
          have HC3 := hd (take_yes R s m 44 44 rfl (w1.drewN kd) hr2 hs h44)
          clear h44 h125 hr2
          go_wp2_with fail
          refine HC3.out.mono ?_
          rintro e w3 ⟨rfl, hr3, ho3⟩
          have hp3 := hr3.rpos_eq
          have hz3 := ho3.size
          have HO3 := hd ((HO1.out.drewN kd).trans (ho3.less (by show B ≤ w1.heap.size; omega)))
          have HR3 := hd hr3
          have HW3 := hd (row_off (C := w1.heap.size) HW1.out hR ((OffB.refl _ _ _).drewN kd |>.trans ho3))
          clear hr3 ho3
          go_wp2
          go_roundw
          case rel => exact ⟨ps ++ [p], m + 1, A1, c1, by simp, rfl, by omega, HR3, by simpa using HW3, HC1, HF, HO3⟩
          case measure => rw [hp3, hpos]; omega
        · have HF := hd (show propsP s.data.toList [] i = .bad m 11 by rw [HS.out, if_neg (show ¬ s.data.toList[m]? = some 125 from h125), if_neg (show ¬ s.data.toList[m]? = some 44 from h44)])
          have HC3 := hd (take_no R s m 44 44 rfl (w1.drewN kd) hr2 hs h44)
          clear h44 h125 hr2
          go_wp2_with fail
          refine HC3.out.mono ?_
          rintro e w3 ⟨rfl, kd3, rfl⟩
          go_wp2
          go_ret2
          rw [HF.out]
          exact ⟨HO1.out.drewN _, rfl, HR1.out.drewN _⟩

set_option maxRecDepth 4000 in
theorem idx_eq (l : List UInt8) : Lib.indexByte l 34 = if (l.takeWhile (fun b => b != 34)).length < l.length then ((l.takeWhile (fun b => b != 34)).length : Int) else -1 := by
  induction l with
  | nil => rfl
  | cons b l ih =>
    have hle := takeWhile_len (fun b => b != 34) l
    by_cases h : b = 34
    · subst h
      simp [Lib.indexByte]
    · have h1 : (b == 34) = false := by simpa using h
      have h2 : (b != 34) = true := by simpa using h
      rw [List.takeWhile_cons, if_pos h2]
      unfold Lib.indexByte
      rw [if_neg (by simp [h1]), ih]
      simp only [List.length_cons]
      obtain ⟨T, hT⟩ : ∃ T, T = (l.takeWhile (fun b => b != 34)).length := ⟨_, rfl⟩
      rw [← hT]
      by_cases h3 : T < l.length
      · have e : ((T : Int) == -1) = false := by rw [beq_eq_false_iff_ne]; omega
        rw [if_pos h3, if_pos (show T + 1 < l.length + 1 by omega), e]
        simp
      · rw [if_neg h3, if_neg (show ¬ T + 1 < l.length + 1 by omega)]; rfl
set_option maxRecDepth 4000 in
theorem OwnV.asideK {t : TypeId} {w : World} {g N k : Nat} {v x : Value} {xs : List Value} (h : OwnV t w N v xs) (hg : g < N) : OwnV t (w.setCell ⟨g, k, none⟩ x) N v xs :=
  OwnV.of_own (ownsRow_setCell_below h.own (a := ⟨g, k, none⟩) hg x) rfl
/-- What text leaves. -/
def Texted (R : Nat) (s : ByteArray) (j : Nat) (w : World) (e : Ending) (w' : World) : Prop :=
  OffB R w.heap.size w w' ∧
    ((unqS s.data.toList j).2.2 ≠ 0 → e = .returned (.tuple #[.slice none 0 0, .int .i64 (unqS s.data.toList j).2.2]) ∧ Rd R s (j + (unqS s.data.toList j).2.1.toNat) w') ∧
    ((unqS s.data.toList j).2.2 = 0 → Rd R s (qEnd s.data.toList j) w' ∧ ∃ v, e = .returned (.tuple #[v, .int .i64 0]) ∧ OwnV 21 w' w.heap.size v (rv (unqS s.data.toList j).1))

set_option maxRecDepth 4000 in
set_option maxHeartbeats 8000000 in
theorem text_any (R : Nat) (s : ByteArray) (j : Nat) (w : World) (h : Rd R s j w) (h34 : atB s j = some 34) (hs : s.size ≤ 40000) :
    Calls Tryd.prog 76 #[.pointer (some ⟨R, 0, none⟩)] w (Texted R s j w) := by
  have hjl := atB_lt h34
  obtain ⟨q, hq⟩ : ∃ q, q = qEnd s.data.toList j := ⟨_, rfl⟩
  obtain ⟨x, p, er, hu⟩ : ∃ x p er, unqS s.data.toList j = (x, p, er) := ⟨_, _, _, rfl⟩
  have hqr := qEnd_range (show s.data.toList[j]? = some 34 from h34)
  have hpr := unqS_range (show s.data.toList[j]? = some 34 from h34)
  rw [data_size, ← hq] at hqr
  rw [hu, data_size] at hpr
  obtain ⟨Q0, hQ0⟩ : ∃ Q0, Q0 = s.extract j s.size := ⟨_, rfl⟩
  obtain ⟨Q1, hQ1⟩ : ∃ Q1, Q1 = Q0.extract 1 Q0.size := ⟨_, rfl⟩
  obtain ⟨Q, hQ⟩ : ∃ Q, Q = mkB (cutS s.data.toList j q) := ⟨_, rfl⟩
  have hz0 : Q0.size = s.size - j := by rw [hQ0, extract_size]
  have hzq : Q.size = q - j := by rw [hQ]; exact mkB_cut_size s j q hqr.2
  have hd1 : Q1.data.toList = s.data.toList.drop (j + 1) := by rw [hQ1, extract_drop, hQ0, extract_drop, List.drop_drop]
  have hU := unquote_any Q
  have hUq : unqL Q.data.toList = (x, p, er) := by rw [hQ, mkB_data, hq, ← hu]; rfl
  have HU := hd (fun (w2 : World) => hUq ▸ hU w2 (by omega))
  have HI := hd (fun (w2 : World) => strings_IndexByte Q1 34 w2)
  have HR := hd h
  have HQ := hd hq
  have HUU := hd hu
  have hQE : qEnd s.data.toList j = min (j + 1 + ((s.data.toList.drop (j + 1)).takeWhile (fun b => b != 34)).length + 1) s.size := by unfold qEnd endL; rw [data_size]
  obtain ⟨T, hT⟩ : ∃ T, T = ((s.data.toList.drop (j + 1)).takeWhile (fun b => b != 34)).length := ⟨_, rfl⟩
  have hTl := takeWhile_len (fun b => b != 34) (s.data.toList.drop (j + 1))
  have hdl : (s.data.toList.drop (j + 1)).length = s.size - (j + 1) := by rw [List.length_drop, data_size]
  have hix : Lib.indexByte Q1.data.toList 34 = if T < s.size - (j + 1) then (T : Int) else -1 := by rw [hd1, idx_eq, ← hT, hdl]
  have hc34 : (34 : Int).toNat.toUInt8 = 34 := by decide
  rw [← hT, hdl] at hTl
  rw [← hT, ← hq] at hQE
  have HI2 := HI.out
  rw [hc34, hix] at HI2
  obtain ⟨x0, x1, x2⟩ := h.cells
  have hRl := h.lt
  clear h h34 hU hUq hq hu HI hix hd1 hdl hT hc34
  have hj0 : (j : Int) ≤ (s.size : Int) := by omega
  have h1q : (1 : Int) ≤ (Q0.size : Int) := by omega
  by_cases hTs : T < s.size - (j + 1)
  · rw [if_pos hTs] at HI2
    have HI := hd HI2
    clear HI2
    have ht0 : (0 : Int) ≤ (T : Int) := by omega
    have htq : (T : Int) + 2 ≤ (Q0.size : Int) := by omega
    have HQ2 := hd (show Q0.extract 0 (T + 2) = Q by
      rw [ex_mk, hQ, hQ0, ex_data]
      congr 1
      unfold cutS
      rw [List.take_of_length_le (show s.data.toList.length ≤ s.size by rw [data_size]; exact Nat.le_refl _), List.drop_zero, List.drop_take]
      congr 1
      omega)
    have HQ0 := hd hQ0
    have HQ1 := hd hQ1
    have HZQ := hd (show q = j + Q.size by omega)
    have hzq1 : Q.size ≤ 40000 := by omega
    have hq1 : j + 1 + T + 1 ≤ s.size := by omega
    clear hQ0 hQ1 hz0 hQE hTl hQ hzq
    go_enter Tryd.func76, Tryd.ntmps76
    go_wp2_with fail
    go_quiet (fail)
    rw [← HQ0.out]
    generalize hW1 : w.drewN nq = W1
    have HB1 := hd (show Below w.heap.size w W1 from hW1 ▸ below_drewN (Below.refl _ _) nq)
    have HR1 := hd (hW1 ▸ HR.out.drewN nq)
    clear hW1
    go_wp2_with fail
    rw [← HQ1.out]
    refine (HI.out _).mono ?_
    rintro e w2 ⟨rfl, rfl⟩
    go_wp2_with fail
    rw [HQ2.out]
    refine (HU.out _).mono ?_
    intro e w3 h3
    obtain ⟨v, rfl, hv3, hb3⟩ := h3
    have HR3 := hd (HR1.out.below hb3)
    have HB3 := hd (HB1.out.trans (hb3.mono HB1.out.size))
    have HV3 := hd (hv3.weaken HB1.out.size)
    clear hv3 hb3
    obtain ⟨y0, y1, y2⟩ := HR3.out.cells
    by_cases he : er = 0
    · have hb : (er != 0) = false := by simp [he]
      have HE := hd he
      clear he
      go_wp2
      go_ret2
      refine ⟨(OffB.of_below HB3.out (Nat.le_refl _)).set 1 _, fun h0 => absurd (by rw [HUU.out]; exact HE.out) h0, fun _ => ⟨?_, v, rfl, by rw [HUU.out]; exact HV3.out.asideK hRl⟩⟩
      have := HR3.out.set q
      rw [← HQ.out]
      have e : ((q : Nat) : Int) = (j : Int) + (Q.size : Int) := by have := HZQ.out; omega
      rw [e] at this
      exact this
    · have hb : (er != 0) = true := by simpa using he
      obtain ⟨hp0, hp1⟩ := hpr he
      obtain ⟨pn, rfl⟩ : ∃ pn : Nat, p = pn := ⟨p.toNat, by omega⟩
      simp only [Int.toNat_natCast] at hp1
      have HE := hd he
      clear he
      go_wp2
      go_ret2
      refine ⟨(OffB.of_below HB3.out (Nat.le_refl _)).set 1 _, fun _ => ⟨by rw [HUU.out]; rfl, ?_⟩, fun h0 => absurd (by rw [HUU.out] at h0; exact h0) HE.out⟩
      have := HR3.out.set (j + pn)
      rw [HUU.out]
      simpa using this
  · rw [if_neg hTs] at HI2
    have HI := hd HI2
    clear HI2
    have HQ2 := hd (show Q0 = Q by
      rw [hQ, hQ0, ex_mk]
      congr 2
      omega)
    have HQ0 := hd hQ0
    have HQ1 := hd hQ1
    have HZQ := hd (show q = j + Q.size by omega)
    have hzq1 : Q.size ≤ 40000 := by omega
    clear hQ0 hQ1 hz0 hQE hTl hQ hzq
    go_enter Tryd.func76, Tryd.ntmps76
    go_wp2_with fail
    go_quiet (fail)
    rw [← HQ0.out]
    generalize hW1 : w.drewN nq = W1
    have HB1 := hd (show Below w.heap.size w W1 from hW1 ▸ below_drewN (Below.refl _ _) nq)
    have HR1 := hd (hW1 ▸ HR.out.drewN nq)
    clear hW1
    go_wp2_with fail
    rw [← HQ1.out]
    refine (HI.out _).mono ?_
    rintro e w2 ⟨rfl, rfl⟩
    go_wp2_with fail
    rw [HQ2.out]
    refine (HU.out _).mono ?_
    intro e w3 h3
    obtain ⟨v, rfl, hv3, hb3⟩ := h3
    have HR3 := hd (HR1.out.below hb3)
    have HB3 := hd (HB1.out.trans (hb3.mono HB1.out.size))
    have HV3 := hd (hv3.weaken HB1.out.size)
    clear hv3 hb3
    obtain ⟨y0, y1, y2⟩ := HR3.out.cells
    by_cases he : er = 0
    · have hb : (er != 0) = false := by simp [he]
      have HE := hd he
      clear he
      go_wp2
      go_ret2
      refine ⟨(OffB.of_below HB3.out (Nat.le_refl _)).set 1 _, fun h0 => absurd (by rw [HUU.out]; exact HE.out) h0, fun _ => ⟨?_, v, rfl, by rw [HUU.out]; exact HV3.out.asideK hRl⟩⟩
      have := HR3.out.set q
      rw [← HQ.out]
      have e : ((q : Nat) : Int) = (j : Int) + (Q.size : Int) := by have := HZQ.out; omega
      rw [e] at this
      exact this
    · have hb : (er != 0) = true := by simpa using he
      obtain ⟨hp0, hp1⟩ := hpr he
      obtain ⟨pn, rfl⟩ : ∃ pn : Nat, p = pn := ⟨p.toNat, by omega⟩
      simp only [Int.toNat_natCast] at hp1
      have HE := hd he
      clear he
      go_wp2
      go_ret2
      refine ⟨(OffB.of_below HB3.out (Nat.le_refl _)).set 1 _, fun _ => ⟨by rw [HUU.out]; rfl, ?_⟩, fun h0 => absurd (by rw [HUU.out] at h0; exact h0) HE.out⟩
      have := HR3.out.set (j + pn)
      rw [HUU.out]
      simpa using this

end Go.Proofs.YtknkclbjocfhiaaDoor
