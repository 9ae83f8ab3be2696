/- A whole text read: tree. code.Parse. -/
import Derived.Test.YtknkclbjocfhiaaDoorCReader
import Derived.Deep.Cut
namespace Go.Proofs.YtknkclbjocfhiaaDoor
open Go.RowKit
open Go.WideShapes (add_plain)

/-- The open nodes, the innermost first. -/
def stN (L : List Opn) : List NT := (L.map Opn.n).reverse
set_option maxRecDepth 4000 in
theorem stN_snoc (L : List Opn) (p : Opn) : stN (L ++ [p]) = p.n :: stN L := by unfold stN; simp
/-- What tree leaves. -/
def Treed (R : Nat) (s : ByteArray) (r : Res NT) (w : World) (e : Ending) (w' : World) : Prop :=
  OffB R w.heap.size w w' ∧ match r with
  | .bad p er => Rd R s p w' ∧ e = .returned (.tuple #[.agg #[.bool false, .slice none 0 0, .slice none 0 0, .slice none 0 0], .int .i64 er])
  | .ok n j => Rd R s j w' ∧ ∃ u d, e = .returned (.tuple #[u, .int .i64 0]) ∧ TreeP (fun b => w.heap.size ≤ b ∧ b < w'.heap.size) d w' u n
/-- What holds between two nodes. -/
structure Mid (R : Nat) (s : ByteArray) (w : World) (i : Nat) (wr : World) : Prop where
  rd : Rd R s i wr
  off : OffB R w.heap.size w wr
  out : V4 w.heap.size (.bool false) (.slice none 0 0) (.slice none 0 0) (.slice none 0 0) wr
  le : i ≤ s.size
def OutRel (_R : Nat) (s : ByteArray) (w : World) (v : Value) (i : Nat) (wr : World) : Prop :=
  ∃ Sp L X d, Stk Sp (w.heap.size + 1) d wr v L X ∧ X < wr.heap.size ∧ tot L ≤ i ∧ nodeW s.data.toList 0 = wrapW s.data.toList (stN L) (nodeW s.data.toList i)
def InRel (_R : Nat) (s : ByteArray) (w : World) (g5 : Nat) (v : Value) (b : Bool) (j : Nat) (wr : World) : Prop :=
  ∃ Sp L o d A c, v = .slice A (L.length + 1) c ∧ Stk Sp (w.heap.size + 1) d wr v (L ++ [o]) g5 ∧ g5 < wr.heap.size ∧ tot (L ++ [o]) ≤ j ∧ (∃ x0 x1 x2 x3, V4 g5 x0 x1 x2 x3 wr) ∧
    (b = true → nodeW s.data.toList 0 = wrapW s.data.toList (stN L) (.ok o.n j)) ∧ (b = false → nodeW s.data.toList 0 = wrapW s.data.toList (stN L) (kidsW s.data.toList o.n j))
set_option maxRecDepth 4000 in
theorem tot_len (L : List Opn) : L.length ≤ tot L := by
  induction L with
  | nil => simp [tot]
  | cons o r ih => simp only [List.length_cons, tot]; omega
def lenOf : Value → Nat
  | .slice _ n _ => n
  | _ => 0

set_option maxRecDepth 4000 in
theorem flat_last (L : List Opn) (o : Opn) (k : Nat) (hk : k < 4) : (flatK ((L ++ [o]).map Opn.val))[L.length * 4 + k]? = o.row4[k]? := by
  rw [List.map_append, flatK_append, show flatK (List.map Opn.val [o]) = o.row4 from by rw [flat_vals]; simp, List.getElem?_append_right (by rw [flat_len]; omega), flat_len]
  congr 1
  omega
set_option maxRecDepth 4000 in
theorem Mid.keep {R : Nat} {s : ByteArray} {w : World} {i j : Nat} {wr w' : World} (h : Mid R s w i wr) (hr : Rd R s j w') (ho : OffB R wr.heap.size wr w') (hgR : R ≠ w.heap.size) (hj : j ≤ s.size) : Mid R s w j w' :=
  ⟨hr, h.off.trans (ho.less h.off.size), h.out.off ho (Ne.symm hgR), hj⟩
set_option maxRecDepth 4000 in
theorem InRel.keep {R : Nat} {s : ByteArray} {w : World} {g5 : Nat} {v : Value} {b : Bool} {j : Nat} {wr w' : World} (h : InRel R s w g5 v b j wr) (ho : OffB R wr.heap.size wr w') (hR : R < w.heap.size) (hg5 : w.heap.size < g5) : InRel R s w g5 v b j w' := by
  obtain ⟨Sp, L, o, d, A, c, rfl, hst, hg, ht, ⟨x0, x1, x2, x3, hv⟩, h1, h2⟩ := h
  exact ⟨Sp, L, o, d, A, c, rfl, hst.keep ho.size (fun b hb1 hb2 _ => ho.block b hb2 (by omega)), by have := ho.size; omega, ht, ⟨x0, x1, x2, x3, hv.off ho (by omega)⟩, h1, h2⟩
set_option maxRecDepth 4000 in
theorem InRel.ended {R : Nat} {s : ByteArray} {w : World} {g5 : Nat} {v : Value} {j : Nat} {wr : World} (h : InRel R s w g5 v false j wr) (h93 : atB s j = some 93) : InRel R s w g5 v true (j + 1) wr := by
  obtain ⟨Sp, L, o, d, A, c, rfl, hst, hg, ht, hv, _, h2⟩ := h
  refine ⟨Sp, L, o, d, A, c, rfl, hst, hg, by omega, hv, fun _ => ?_, fun e => (nomatch e)⟩
  rw [h2 rfl, kidsW_end (show s.data.toList[j]? = some 93 from h93)]
set_option maxRecDepth 4000 in
theorem InRel.go {R : Nat} {s : ByteArray} {w : World} {g5 : Nat} {v : Value} {j : Nat} {wr : World} (h : InRel R s w g5 v false j wr) (hj : j ≤ s.size) (h93 : atB s j ≠ some 93) : OutRel R s w v j wr := by
  obtain ⟨Sp, L, o, d, A, c, rfl, hst, hg, ht, hv, _, h2⟩ := h
  refine ⟨Sp, L ++ [o], g5, d, hst, hg, ht, ?_⟩
  rw [h2 rfl, wrapW_kids (by rw [data_size]; exact hj) (show s.data.toList[j]? ≠ some 93 from h93), stN_snoc]

set_option maxRecDepth 4000 in
theorem Opn.val_of {o : Opn} {a b c d : Value} (h : o.row4 = [a, b, c, d]) : o.val = .agg #[a, b, c, d] := by
  have e : o.val = .agg o.row4.toArray := rfl
  rw [e, h]

set_option maxRecDepth 4000 in
theorem OutRel.keep {R : Nat} {s : ByteArray} {w : World} {v : Value} {i : Nat} {wr w' : World} (h : OutRel R s w v i wr) (ho : OffB R wr.heap.size wr w') (hR : R < w.heap.size) : OutRel R s w v i w' := by
  obtain ⟨Sp, L, X, d, hst, hX, ht, hN⟩ := h
  exact ⟨Sp, L, X, d, hst.keep ho.size (fun b hb1 hb2 _ => ho.block b hb2 (by omega)), by have := ho.size; omega, ht, hN⟩

set_option maxRecDepth 4000 in
set_option maxHeartbeats 16000000 in
theorem tree_any (R : Nat) (s : ByteArray) (w : World) (h : Rd R s 0 w) (hs : s.size ≤ 40000) :
    Calls Tryd.prog 28 #[.pointer (some ⟨R, 0, none⟩)] w (Treed R s (nodeW s.data.toList 0) w) := by
  have hRl := h.lt
  have hgR : R ≠ w.heap.size := by omega
  obtain ⟨W1, hW1⟩ : ∃ W1, W1 = w.alloc (.cells #[.bool false, .slice none 0 0, .slice none 0 0, .slice none 0 0] 26) := ⟨_, rfl⟩
  have HM1 : Hid (Mid R s w 0 W1) := hd (hW1 ▸ ⟨h.alloc _, (OffB.refl R w.heap.size w).alloc _ (Nat.le_refl _), V4.new w _ _ _ _, Nat.zero_le _⟩)
  have hz1 : W1.heap.size = w.heap.size + 1 := by rw [hW1]; simp
  clear h
  subst hW1
  go_enter Tryd.func28, Tryd.ntmps28
  go_wp2_with fail
  go_loopw [4] (fun v wr => ∃ i : Nat, Hid (Mid R s w i wr) ∧ Hid (OutRel R s w v i wr)) (fun _ wr => s.size - rpos R wr)
  case atStart => exact ⟨0, HM1, fun _ => False, [], w.heap.size, 0, Stk.nil _ _ _ _, by omega, Nat.zero_le _, rfl⟩
  case round =>
    obtain ⟨i, HM, HS⟩ := hrel
    have hpos := HM.out.rd.rpos_eq
    have hile := HM.out.le
    have hzr := HM.out.off.size
    have HC := hd (begin_any R s i wr HM.out.rd hile hs)
    cases hb : beginP s.data.toList i with
    | bad p er =>
      rw [hb] at HC
      have HC := hd HC.out
      have hne : er ≠ 0 := ((beginP_range (by rw [data_size]; exact hile)).2 p er hb).2
      have hnb : (er != 0) = true := by simpa using hne
      have HF := hd (show nodeW s.data.toList 0 = .bad p er by
        obtain ⟨_, L, _, _, _, _, _, e⟩ := HS.out
        rw [e, nodeW_bad hb, wrapW_bad])
      clear hb hne
      go_wp2_with fail
      refine HC.out.mono ?_
      intro e w1 h1
      obtain ⟨ho1, hr1, lf5, PA5, np5, pc5, TA5, nt5, tc5, KA5, nk5, kc5, rfl⟩ := h1
      have HV1 := hd (HM.out.out.off ho1 (Ne.symm hgR))
      have HO1 := hd (HM.out.off.trans (ho1.less hzr))
      have HR1 := hd hr1
      have hz1' := ho1.size
      clear hr1 ho1 HS
      obtain ⟨x0, x1, x2, x3⟩ := HV1.out.cells
      obtain ⟨f0, f1, f2, f3⟩ := HV1.out.frees
      have hlg := HV1.out.lt
      have hng : w.heap.size ≠ w1.heap.size := by omega
      have hng2 : w1.heap.size ≠ w.heap.size := by omega
      go_upto_region 3 with fail
      generalize hW2 : World.alloc w1 _ = W2
      have HV2 := hd (hW2 ▸ HV1.out.below ((Below.refl _ _).alloc (Nat.le_refl _) (.cells #[.bool lf5, .slice PA5 np5 pc5, .slice TA5 nt5 tc5, .slice KA5 nk5 kc5] 26)))
      have HO2 := hd (hW2 ▸ HO1.out.alloc (.cells #[.bool lf5, .slice PA5 np5 pc5, .slice TA5 nt5 tc5, .slice KA5 nk5 kc5] 26) (by omega))
      have HR2 := hd (hW2 ▸ HR1.out.alloc (.cells #[.bool lf5, .slice PA5 np5 pc5, .slice TA5 nt5 tc5, .slice KA5 nk5 kc5] 26))
      clear hW2 x0 x1 x2 x3 f0 f1 f2 f3
      obtain ⟨x0, x1, x2, x3⟩ := HV2.out.cells
      obtain ⟨f0, f1, f2, f3⟩ := HV2.out.frees
      go_wp2
      refine bodyPost_ret (v := .tuple #[.agg #[.bool false, .slice none 0 0, .slice none 0 0, .slice none 0 0], .int .i64 er]) (by simp [results, Tryd.results28, go_sem, x0, x1, x2, x3]) rfl ?_
      rw [HF.out]
      exact ⟨HO2.out.far4 (Nat.le_refl _) _ _ _ _, HR2.out.far4 hgR _ _ _ _, rfl⟩
    | ok n j =>
      have hbr := (beginP_range (by rw [data_size]; exact hile)).1 n j hb
      rw [data_size] at hbr
      rw [hb] at HC
      have HC := hd HC.out
      have HB := hd hb
      clear hb
      go_wp2_with fail
      refine HC.out.mono ?_
      intro e w1 h1
      obtain ⟨ho1, hr1, PA, np, pc, TA, nt, tc, rfl, hnp, hnt, hks, hpc, htc, hntl, hck, hvp, hvt⟩ := h1
      have hz1' := ho1.size
      have HV1 := hd (HM.out.out.off ho1 (Ne.symm hgR))
      have HO1 := hd (HM.out.off.trans (ho1.less hzr))
      have HR1 := hd hr1
      have hgw := HM.out.out.lt
      obtain ⟨lf, hlf⟩ : ∃ lf, lf = n.lf := ⟨_, rfl⟩
      obtain ⟨Sp, L, X, d, hstk, hX, htot, hN⟩ := HS.out
      have hst1 := hstk.fresh (w' := w1) (Y := w1.heap.size) (by omega) (Nat.le_refl _) hz1' (fun b h1 h2 _ => ho1.block b h2 (by omega))
      have hok1 : OpnOk (fun b => Sp b ∨ (wr.heap.size ≤ b ∧ b < w1.heap.size)) (w.heap.size + 1) d w1 ⟨PA, np, pc, TA, nt, tc, .slice none 0 0, [], n⟩ :=
        ⟨hnp, hnt, hpc, htc, hntl, hck, hvp.keep (fun _ h => .inr h) (fun _ _ => ⟨rfl, rfl⟩), hvt.keep (fun _ h => .inr h) (fun _ _ => ⟨rfl, rfl⟩), by
          show w1.ownsRow _ _ 4 (.slice none 0 0) n.ks.length (flatK [])
          rw [hks]; exact World.ownsRow_nil _ _ _ _, by show ([] : List Value).length = n.ks.length; rw [hks]; rfl, fun j m hm => by
          have hm : n.ks[j]? = some m := hm
          rw [hks] at hm; simp at hm⟩
      have hN1 : (lf = true → nodeW s.data.toList 0 = wrapW s.data.toList (stN L) (.ok n j)) ∧ (lf = false → nodeW s.data.toList 0 = wrapW s.data.toList (stN L) (kidsW s.data.toList n j)) := by
        constructor
        · intro e
          rw [hN, nodeW_leaf HB.out (by rw [← hlf]; exact e)]
        · intro e
          rw [hN, nodeW_elem (by rw [data_size]; exact hile) HB.out (by rw [← hlf]; exact e)]
      have hto : tot (L ++ [⟨PA, np, pc, TA, nt, tc, .slice none 0 0, [], n⟩]) ≤ j := by
        rw [tot_append]
        show tot L + (1 + n.ks.length + 0) ≤ j
        rw [hks]; simp; omega
      have HST := hd hst1
      have HOK := hd hok1
      have HN1 := hd hN1
      have HTO := hd hto
      have HLF := hd hlf
      rw [← hlf]
      clear hr1 ho1 HS hnp hnt hks hpc htc hntl hck hvp hvt hstk hX htot hN hst1 hok1 hN1 hto hlf HC
      go_upto_region 3 with fail
      generalize hW5 : World.alloc w1 _ = W5
      have hz5 : W5.heap.size = w1.heap.size + 1 := by rw [← hW5]; simp
      have hb5 : ∀ b, b < w1.heap.size → W5.heap[b]? = w1.heap[b]? := fun b hb => by rw [← hW5, Below.heap_alloc _ _ _ hb]
      have HG5 := hd (hW5 ▸ V4.new w1 (.bool lf) (.slice PA np pc) (.slice TA nt tc) (.slice none 0 0))
      have HV5 := hd (HV1.out.below (⟨by rw [← hW5]; rfl, by rw [← hW5]; rfl, by rw [← hW5]; rfl, by omega, hb5⟩))
      have HO5 := hd (hW5 ▸ HO1.out.alloc (.cells #[.bool lf, .slice PA np pc, .slice TA nt tc, .slice none 0 0] 26) (by omega))
      have HR5 := hd (hW5 ▸ HR1.out.alloc (.cells #[.bool lf, .slice PA np pc, .slice TA nt tc, .slice none 0 0] 26))
      have HST5 := hd (HST.out.keep (w' := W5) (by omega) (fun b _ h2 _ => hb5 b h2))
      have HOK5 := hd (HOK.out.keep (w' := W5) (fun _ h => h) fun b hb => by
        rcases hb with hb | hb
        · exact hb5 b (HST.out.sp b hb).2.1
        · cases hb)
      clear hW5
      obtain ⟨g5, hg5⟩ : ∃ g5, g5 = w1.heap.size := ⟨_, rfl⟩
      rw [← hg5] at HG5 HST5 HOK5 ⊢
      have hg5l : g5 < W5.heap.size := by omega
      have hg5b : w.heap.size < g5 := by omega
      have hbW5 : w.heap.size + 1 ≤ W5.heap.size := by omega
      have hgR5 : R ≠ g5 := by omega
      clear hg5 hz5 hb5
      obtain ⟨y0, y1, y2, y3⟩ := HG5.out.cells
      have hLt := tot_len L
      have hlL : L.length ≤ 40000 := by have := HTO.out; rw [tot_append] at this; omega
      have one : ∀ u ∈ [Value.bool lf, .slice PA np pc, .slice TA nt tc, .slice none 0 0], u.oneCell' = true := by intro u hu; simp at hu; rcases hu with rfl | rfl | rfl | rfl <;> rfl
      go_upto_region 6 with (at_builtin; refine wpList_app1 nodeG W5 rfl (.tmp 19) (.tmp 21) rfl (w.heap.size + 1) u4 L.length (flatK (L.map Opn.val)) [.bool lf, .slice PA np pc, .slice TA nt tc, .slice none 0 0] rfl HST5.out.row rfl rfl one (by omega) (by decide) (by omega) ?_; intro A2 c2 w2 hown2 hgrow2 hat2)
      have hz2 := hgrow2.size
      have hk2 : ∀ b, b < W5.heap.size → u4.ownBlock ≠ some b → w2.heap[b]? = W5.heap[b]? := fun b h1 h2 => (hgrow2.block b (by simp; omega) (fun e => h2 e.symm)).trans (Below.heap_alloc _ _ _ h1)
      have hu4 : ∀ b, b < w.heap.size + 1 → u4.ownBlock ≠ some b := fun b h1 e => by have := (HST5.out.own_lt e).1; omega
      have HST2 := hd (HST5.out.push (W := W5.alloc (.cells #[.bool lf, .slice PA np pc, .slice TA nt tc, .slice none 0 0] 26)) hg5l HOK5.out rfl (fun b h1 => Below.heap_alloc _ _ _ h1) (by simp) (by have := hown2; rw [HLF.out] at this; exact this) hgrow2 (by
        rcases hat2 with e | ⟨g, e, hg⟩
        · exact .inl e
        · exact .inr ⟨g, e, by omega⟩))
      have HG2 := hd (show V4 g5 (.bool lf) (.slice PA np pc) (.slice TA nt tc) (.slice none 0 0) w2 from ⟨(hk2 g5 hg5l HST5.out.vX).trans HG5.out.blk⟩)
      have HM2 : Hid (Mid R s w j w2) := hd ⟨⟨(hk2 R (by omega) (hu4 R (by omega))).trans HR5.out.blk⟩, ⟨hgrow2.os.trans HO5.out.os, hgrow2.tape.trans HO5.out.tape, hgrow2.output.trans HO5.out.output, by have := HO5.out.size; simp at hz2; omega, fun b h1 h2 => (hk2 b (by omega) (hu4 b (by omega))).trans (HO5.out.block b h1 h2)⟩, ⟨(hk2 _ (by omega) (hu4 _ (by omega))).trans HV5.out.blk⟩, hbr.2.1⟩
      have hg52 : g5 < w2.heap.size := by simp at hz2; omega
      clear y0 y1 y2 y3 hown2 hgrow2 hat2 hk2 hu4 HST5 HG5 HV5 HO5 HR5 HOK5 HOK HST HV1 HO1 HR1 one
      obtain ⟨y0, y1, y2, y3⟩ := HG2.out.cells
      go_wp2_with fail
      clear y0 y1 y2 y3
      obtain ⟨wo, hwo⟩ : ∃ wo : World, wo = wr := ⟨_, rfl⟩
      subst hwo
      go_loopw [4, 7] (fun v e wr2 => ∃ (j2 : Nat) (b : Bool), e = .bool b ∧ i < j2 ∧ Hid (Mid R s w j2 wr2) ∧ Hid (InRel R s w g5 v b j2 wr2)) (fun v _ _ => lenOf v)
      case atStart => exact ⟨j, lf, rfl, hbr.1, HM2, _, L, ⟨PA, np, pc, TA, nt, tc, .slice none 0 0, [], n⟩, d, A2, c2, rfl, HST2.out, hg52, HTO.out, ⟨_, _, _, _, HG2.out⟩, HN1.out.1, HN1.out.2⟩
      case round =>
        clear HC hbr HB HN1 HLF HTO hgw hLt hlL HST2 HG2 HM2
        obtain ⟨j2, b, rfl, hij, HMr, HIr⟩ := hrel
        have hzR := HMr.out.off.size
        cases b
        · by_cases h93 : atB s j2 = some 93
          · have HC := hd (take_yes R s j2 93 93 rfl wr HMr.out.rd (by omega) h93)
            have hjl := atB_lt h93
            have HIe := hd (HIr.out.ended h93)
            clear h93 HIr
            go_wp2_with fail
            refine HC.out.mono ?_
            rintro e Wp ⟨rfl, hrp, hop⟩
            have HMp := hd (HMr.out.keep hrp hop hgR hjl)
            have HIp := hd (HIe.out.keep hop hRl hg5b)
            have hijp : i < j2 + 1 := by omega
            obtain ⟨jp, hjp⟩ : ∃ jp, jp = j2 + 1 := ⟨_, rfl⟩
            rw [← hjp] at HMp HIp hijp
            clear hrp hop HMr HIe hij hjl hjp HC
            go_upto_region 9 with fail
            obtain ⟨Sp2, L2, o, d2, A, c, rfl, hst, hg5p, htot, ⟨z0, z1, z2, z3, hgv⟩, hN0, _⟩ := HIp.out
            have hN := hN0 rfl
            clear hN0
            obtain ⟨gv, rfl⟩ : ∃ gv, A = some ⟨gv, 0, none⟩ := by
              rcases hst.row.2 with ⟨e, _⟩ | ⟨g, cap, cur, e, _⟩
              · simp at e
              · injection e with e1; exact ⟨g, e1⟩
            obtain ⟨hstp, hokp, hobp⟩ := hst.pop
            have hgvl := hst.own_lt (b := gv) rfl
            have hgv5 : gv ≠ g5 := fun e => hst.vX (by rw [← e]; rfl)
            have hcell : ∀ k u, o.row4[k]? = some u → Wp.cell? ⟨gv, L2.length * 4 + k, none⟩ = some u := fun k u hu => by
              have hk : k < 4 := (List.getElem?_eq_some_iff.1 hu).1
              have hrow := hst.row
              rw [List.length_append, List.length_singleton] at hrow
              exact (row_cells hrow (by rw [flat_last L2 o k hk]; exact hu)).1
            have hl2 : L2.length ≤ 40000 := by have h1 := tot_len (L2 ++ [o]); rw [List.length_append] at h1; have := HMp.out.le; omega
            obtain ⟨lfo, hlfo⟩ : ∃ lfo, lfo = o.n.lf := ⟨_, rfl⟩
            have c0 := hcell 0 (.bool lfo) (by rw [hlfo]; rfl)
            have c1 := hcell 1 (.slice o.PA o.np o.pc) rfl
            have c2' := hcell 2 (.slice o.TA o.nt o.tc) rfl
            have c3 := hcell 3 o.vK rfl
            obtain ⟨ℓ, hℓ⟩ : ∃ ℓ, ℓ = L2.length := ⟨_, rfl⟩
            rw [← hℓ] at c0 c1 c2' c3 hl2 ⊢
            rw [Nat.add_zero] at c0
            obtain ⟨oPA, onp, opc, oTA, ont, otc, ovK, hov⟩ : ∃ oPA onp opc oTA ont otc ovK, o.row4 = [.bool lfo, .slice oPA onp opc, .slice oTA ont otc, ovK] ∧ o.PA = oPA ∧ o.np = onp ∧ o.pc = opc ∧ o.TA = oTA ∧ o.nt = ont ∧ o.tc = otc ∧ o.vK = ovK := ⟨_, _, _, _, _, _, _, by rw [hlfo]; rfl, rfl, rfl, rfl, rfl, rfl, rfl, rfl⟩
            obtain ⟨hov, o1, o2, o3, o4, o5, o6, o7⟩ := hov
            rw [o1, o2, o3] at c1
            rw [o4, o5, o6] at c2'
            rw [o7] at c3
            obtain ⟨KA, nk, kc, rfl⟩ : ∃ KA nk kc, ovK = .slice KA nk kc := by
              obtain ⟨KA, kc, e, _⟩ := rowFree hokp.row
              exact ⟨KA, _, kc, by rw [← o7]; exact e⟩
            have HST := hd hst
            have HSTP := hd hstp
            have HOKP := hd hokp
            have HOBP := hd hobp
            have HN := hd hN
            have HGV := hd hgv
            have HL := hd hℓ
            have HOV := hd hov
            have HLFO := hd hlfo
            have HO7 := hd o7
            have hcap : ℓ + 1 ≤ c := by
              obtain ⟨_, c', e, h1, _⟩ := rowFree hst.row
              injection e with _ e1 e2
              rw [List.length_append, List.length_singleton] at h1
              omega
            clear hℓ hst hstp hokp hobp hN hgv hcell hlfo hov o1 o2 o3 o4 o5 o6 o7 HIp
            go_upto_region 10 with fail
            refine Y_start (S := fun W => W.cell? ⟨gv, ℓ * 4, none⟩ = some (.bool lfo) ∧ W.cell? ⟨gv, ℓ * 4 + 1, none⟩ = some (.slice oPA onp opc) ∧ W.cell? ⟨gv, ℓ * 4 + 2, none⟩ = some (.slice oTA ont otc) ∧ W.cell? ⟨gv, ℓ * 4 + 3, none⟩ = some (.slice KA nk kc)) (z := fun _ => false) (by kernel_rfl) ?_
            obtain ⟨wd, hwd⟩ : ∃ wd, wd = Wp.drew := ⟨_, rfl⟩
            rw [← hwd]
            have HSS := hd (show wd.cell? ⟨gv, ℓ * 4, none⟩ = some (.bool lfo) ∧ wd.cell? ⟨gv, ℓ * 4 + 1, none⟩ = some (.slice oPA onp opc) ∧ wd.cell? ⟨gv, ℓ * 4 + 2, none⟩ = some (.slice oTA ont otc) ∧ wd.cell? ⟨gv, ℓ * 4 + 3, none⟩ = some (.slice KA nk kc) by rw [hwd]; exact ⟨c0, c1, c2', c3⟩)
            have HGVd := hd (show V4 g5 z0 z1 z2 z3 wd by rw [hwd]; exact ⟨HGV.out.blk⟩)
            have HDH := hd (show wd.heap = Wp.heap by rw [hwd]; rfl)
            have HDO := hd (show OffB R Wp.heap.size Wp wd by rw [hwd]; exact .of_below ((Below.refl _ _).drew) (Nat.le_refl _))
            clear hwd c0 c1 c2' c3
            have hi0 : (0 : Int) ≤ (ℓ : Int) := by omega
            have hi1 : (ℓ : Int) < (ℓ : Int) + 1 := by omega
            obtain ⟨f0, f1, f2, f3⟩ := HGVd.out.frees
            obtain ⟨e0, e1, e2, e3⟩ := HGVd.out.cells
            have HSK := hd (fun (W' : World) (hW' : W'.heap[gv]? = wd.heap[gv]?) => (⟨(World.cell?_of_block hW').trans HSS.out.1, (World.cell?_of_block hW').trans HSS.out.2.1, (World.cell?_of_block hW').trans HSS.out.2.2.1, (World.cell?_of_block hW').trans HSS.out.2.2.2⟩ : W'.cell? ⟨gv, ℓ * 4, none⟩ = some (.bool lfo) ∧ W'.cell? ⟨gv, ℓ * 4 + 1, none⟩ = some (.slice oPA onp opc) ∧ W'.cell? ⟨gv, ℓ * 4 + 2, none⟩ = some (.slice oTA ont otc) ∧ W'.cell? ⟨gv, ℓ * 4 + 3, none⟩ = some (.slice KA nk kc)))
            refine Y_take (i := 0) (n := 8) (.slice (some ⟨gv, 0, none⟩) (ℓ + 1) c) rfl (by kernel_rfl) (by kernel_rfl) (by kernel_rfl) (by kernel_rfl) (fun _ _ _ h => h) (by rfl) (fun W hW => ?_) HSS.out ?_
            · obtain ⟨hW0, hW1, hW2, hW3⟩ := hW
              go_simp
              try (intro hx; omega)
            simp only [Act.put, List.setIfInBounds_toArray]
            refine Y_take (i := 1) (n := 7) (.int .i64 ℓ) rfl (by kernel_rfl) (by kernel_rfl) (by kernel_rfl) (by kernel_rfl) (fun _ _ _ h => h) (by rfl) (fun W hW => ?_) HSS.out ?_
            · obtain ⟨hW0, hW1, hW2, hW3⟩ := hW
              go_simp
              try (intro hx; omega)
            simp only [Act.put]
            refine Y_take (i := 2) (n := 6) (.pointer (some ⟨gv, ℓ * 4, none⟩)) rfl (by kernel_rfl) (by kernel_rfl) (by kernel_rfl) (by kernel_rfl) (fun _ _ _ h => h) (by rfl) (fun W hW => ?_) HSS.out ?_
            · obtain ⟨hW0, hW1, hW2, hW3⟩ := hW
              go_simp
              try (intro hx; omega)
            simp only [Act.put]
            refine Y_take (i := 3) (n := 5) (.agg #[.bool lfo, .slice oPA onp opc, .slice oTA ont otc, .slice KA nk kc]) rfl (by kernel_rfl) (by kernel_rfl) (by kernel_rfl) (by kernel_rfl) (fun _ _ _ h => h) (by rfl) (fun W hW => ?_) HSS.out ?_
            · obtain ⟨hW0, hW1, hW2, hW3⟩ := hW
              go_simp
              try (intro hx; omega)
            simp only [Act.put]
            refine Y_take (i := 4) (n := 4) (.slice (some ⟨gv, 0, none⟩) (ℓ + 1) c) rfl (by kernel_rfl) (by kernel_rfl) (by kernel_rfl) (by kernel_rfl) (fun _ _ _ h => h) (by rfl) (fun W hW => ?_) HSS.out ?_
            · obtain ⟨hW0, hW1, hW2, hW3⟩ := hW
              go_simp
              try (intro hx; omega)
            simp only [Act.put]
            refine Y_take (i := 5) (n := 3) (.int .i64 ℓ) rfl (by kernel_rfl) (by kernel_rfl) (by kernel_rfl) (by kernel_rfl) (fun _ _ _ h => h) (by rfl) (fun W hW => ?_) HSS.out ?_
            · obtain ⟨hW0, hW1, hW2, hW3⟩ := hW
              go_simp
              try (intro hx; omega)
            simp only [Act.put]
            refine Y_take (i := 6) (n := 2) (.slice (some ⟨gv, 0, none⟩) ℓ c) rfl (by kernel_rfl) (by kernel_rfl) (by kernel_rfl) (by kernel_rfl) (fun _ _ _ h => h) (by rfl) (fun W hW => ?_) HSS.out ?_
            · obtain ⟨hW0, hW1, hW2, hW3⟩ := hW
              go_simp
              try (intro hx; omega)
            simp only [Act.put]
            refine Y_one (i := 7) (n := 1) (by kernel_rfl) rfl (fun K hK => ?_)
            rw [if_pos (by rfl)]
            go_simp
            have HW4 := hd (show (set4At wd g5 0 (.bool lfo) (.slice oPA onp opc) (.slice oTA ont otc) (.slice KA nk kc)).heap[gv]? = wd.heap[gv]? from set4_far hgv5)
            refine hK _ _ (fun _ => HSK.out _ HW4.out) ?_
            clear hK K
            refine Y_one (i := 8) (n := 0) (by kernel_rfl) rfl (fun K hK => ?_)
            rw [if_pos (by rfl)]
            go_simp
            refine hK _ _ (fun _ => HSK.out _ HW4.out) (Y_done (by kernel_rfl) ?_)
            clear hK K HW4 HSK e0 e1 e2 e3 f0 f1 f2 f3
            generalize hWs : World.setCell _ ⟨g5, 3, none⟩ _ = Ws
            have hse : set4At wd g5 0 (.bool lfo) (.slice oPA onp opc) (.slice oTA ont otc) (.slice KA nk kc) = Ws := hWs
            have hsz : Ws.heap.size = Wp.heap.size := by rw [← hse, set4_sz, HDH.out]
            have HKs := hd (fun (b : Nat) (hb : b ≠ g5) => (show Ws.heap[b]? = Wp.heap[b]? by rw [← hse, set4_far hb, HDH.out]))
            have HG5s := hd (show V4 g5 (.bool lfo) (.slice oPA onp opc) (.slice oTA ont otc) (.slice KA nk kc) Ws from hWs ▸ ((((HGVd.out.set0 _).set1 _).set2 _).set3 _))
            have hgp := HMp.out.out.lt
            have HMs : Hid (Mid R s w jp Ws) := hd ⟨⟨(HKs.out R hgR5).trans HMp.out.rd.blk⟩, ⟨by rw [← hse]; exact HDO.out.os.trans HMp.out.off.os, by rw [← hse]; exact HDO.out.tape.trans HMp.out.off.tape, by rw [← hse]; exact HDO.out.output.trans HMp.out.off.output, by have := HMp.out.off.size; omega, fun b h1 h2 => (HKs.out b (by omega)).trans (HMp.out.off.block b h1 h2)⟩, ⟨(HKs.out _ (by omega)).trans HMp.out.out.blk⟩, HMp.out.le⟩
            have HSTs := hd (HL.out ▸ HSTP.out.keep (w' := Ws) (by omega) (fun b _ _ h3 => HKs.out b h3) : Stk Sp2 (w.heap.size + 1) d2 Ws (.slice (some ⟨gv, 0, none⟩) ℓ c) L2 g5)
            have HOKs := hd (HOKP.out.keep (w' := Ws) (fun _ h => h) fun b hb => HKs.out b (by
              rcases hb with hb | hb
              · exact (HST.out.sp b hb).2.2.1
              · exact (HOBP.out b hb).2.2.1))
            have hksl : o.n.ks.length ≤ 40000 := by have h1 := htot; rw [tot_append] at h1; simp only [tot] at h1; have := HMp.out.le; omega
            have hg5s : g5 < Ws.heap.size := by omega
            have HOV2 := hd (Opn.val_of HOV.out)
            clear hWs hse HGVd HGV HDH HDO HKs HSTP HOKP HSS
            by_cases hl0 : ℓ = 0
            · have HL2 := hd (show L2 = [] from List.eq_nil_of_length_eq_zero (by rw [← HL.out]; exact hl0))
              have HF := hd (show nodeW s.data.toList 0 = .ok o.n jp by rw [HN.out, HL2.out]; rfl)
              have HT := hd (HOKs.out.tree (Sq := fun b => w.heap.size + 1 ≤ b ∧ b < Ws.heap.size) hksl (fun b hb => by have := HSTs.out.sp b hb; exact ⟨this.1, this.2.1⟩) (fun b hb => by have := HOBP.out b hb; exact ⟨this.1, by omega⟩))
              rw [HOV2.out] at HT
              have HT := hd HT.out
              have hlb : ((ℓ : Int) == 0) = true := by simp [hl0]
              clear hl0
              obtain ⟨x0, x1, x2, x3⟩ := HMs.out.out.cells
              obtain ⟨f0, f1, f2, f3⟩ := HMs.out.out.frees
              obtain ⟨y0, y1, y2, y3⟩ := HG5s.out.cells
              go_wp2
              refine bodyPost_ret (v := .tuple #[.agg #[.bool lfo, .slice oPA onp opc, .slice oTA ont otc, .slice KA nk kc], .int .i64 0]) (by simp [results, Tryd.results28, go_sem, x0, x1, x2, x3]) rfl ?_
              rw [HF.out]
              refine ⟨HMs.out.off.far4 (Nat.le_refl _) _ _ _ _, HMs.out.rd.far4 hgR _ _ _ _, _, _, rfl, HT.out.keep (fun b hb => ⟨by omega, by simpa using hb.2⟩) fun p hp => ?_⟩
              have := ((Off2.refl R w.heap.size Ws).set4 (.bool lfo) (.slice oPA onp opc) (.slice oTA ont otc) (.slice KA nk kc)).block p.block hp.2 (by omega) (by omega)
              exact ⟨World.cell?_of_block this, World.frozen?_of_block this⟩
            · obtain ⟨m, hm⟩ : ∃ m, ℓ = m + 1 := ⟨ℓ - 1, by omega⟩
              obtain ⟨L1, p, hLp⟩ : ∃ L1 p, L2 = L1 ++ [p] := by
                rcases List.eq_nil_or_concat L2 with e | ⟨L1, p, e⟩
                · exact absurd (by rw [HL.out, e]; rfl) hl0
                · exact ⟨L1, p, by rw [e, List.concat_eq_append]⟩
              subst hLp
              subst hm
              have HMm := hd (show m = L1.length by have := HL.out; simp at this; omega)
              have hlb : (((m + 1 : Nat) : Int) == 0) = false := by rw [beq_eq_false_iff_ne]; omega
              have hlb2 : ((m : Int) + 1 == 0) = false := by rw [beq_eq_false_iff_ne]; omega
              clear hl0
              go_upto_region 13 with fail
              have hj0 : (0 : Int) ≤ (m : Int) := by omega
              have hj1 : (m : Int) < (m : Int) + 1 := by omega
              go_upto_region 14 with fail
              have hpm : p ∈ L1 ++ [p] := List.mem_append.2 (.inr (List.mem_singleton.2 rfl))
              have hokpp := HSTs.out.ok p hpm
              obtain ⟨pnk, hpnk⟩ : ∃ pnk, pnk = p.n.ks.length := ⟨_, rfl⟩
              obtain ⟨pA, pkc, hpv⟩ : ∃ pA pkc, p.vK = .slice pA pnk pkc := by
                obtain ⟨A', c', e, _⟩ := rowFree hokpp.row
                exact ⟨A', c', by rw [e, hpnk]⟩
              have hpc : Ws.cell? ⟨gv, m * 4 + 3, none⟩ = some (.slice pA pnk pkc) := by
                have hrow := HSTs.out.row
                rw [List.length_append, List.length_singleton, ← HMm.out] at hrow
                have h1 := flat_last L1 p 3 (by omega)
                rw [← HMm.out] at h1
                exact (row_cells hrow (by rw [h1, ← hpv]; rfl)).1
              have hpf : Ws.frozen? ⟨gv, m * 4 + 3, none⟩ = false := by
                have hrow := HSTs.out.row
                rw [List.length_append, List.length_singleton, ← HMm.out] at hrow
                exact hrow.frozenAt _
              have hpl : pnk ≤ 40000 := by have h1 := htot; rw [tot_append, tot_append] at h1; simp only [tot] at h1; have := HMp.out.le; omega
              have HPR := hd (show Ws.ownsRow (w.heap.size + 1) 26 4 (.slice pA pnk pkc) pnk (flatK p.us) by rw [hpnk, ← hpv, hpnk] at *; exact hokpp.row)
              have HPV := hd hpv
              have HPN := hd hpnk
              clear hokpp hpv hpnk
              refine Y_start (S := fun W => W.cell? ⟨gv, m * 4 + 3, none⟩ = some (.slice pA pnk pkc) ∧ W.cell? ⟨g5, 0, none⟩ = some (.bool lfo) ∧ W.cell? ⟨g5, 1, none⟩ = some (.slice oPA onp opc) ∧ W.cell? ⟨g5, 2, none⟩ = some (.slice oTA ont otc) ∧ W.cell? ⟨g5, 3, none⟩ = some (.slice KA nk kc)) (z := fun k => decide (7 ≤ k)) (by kernel_rfl) ?_
              obtain ⟨w1, hw1⟩ : ∃ w1, w1 = Ws.drew := ⟨_, rfl⟩
              rw [← hw1]
              have HW1 := hd (show w1.heap = Ws.heap ∧ w1.os = Ws.os ∧ w1.tape = Ws.tape ∧ w1.output = Ws.output by rw [hw1]; exact ⟨rfl, rfl, rfl, rfl⟩)
              obtain ⟨y0, y1, y2, y3⟩ := HG5s.out.cells
              have HSS := hd (show w1.cell? ⟨gv, m * 4 + 3, none⟩ = some (.slice pA pnk pkc) ∧ w1.cell? ⟨g5, 0, none⟩ = some (.bool lfo) ∧ w1.cell? ⟨g5, 1, none⟩ = some (.slice oPA onp opc) ∧ w1.cell? ⟨g5, 2, none⟩ = some (.slice oTA ont otc) ∧ w1.cell? ⟨g5, 3, none⟩ = some (.slice KA nk kc) by rw [hw1]; exact ⟨hpc, y0, y1, y2, y3⟩)
              have HSK := hd (fun (W' : World) (h1 : W'.heap[gv]? = w1.heap[gv]?) (h2 : W'.heap[g5]? = w1.heap[g5]?) => (⟨(World.cell?_of_block h1).trans HSS.out.1, (World.cell?_of_block h2).trans HSS.out.2.1, (World.cell?_of_block h2).trans HSS.out.2.2.1, (World.cell?_of_block h2).trans HSS.out.2.2.2.1, (World.cell?_of_block h2).trans HSS.out.2.2.2.2⟩ : W'.cell? ⟨gv, m * 4 + 3, none⟩ = some (.slice pA pnk pkc) ∧ W'.cell? ⟨g5, 0, none⟩ = some (.bool lfo) ∧ W'.cell? ⟨g5, 1, none⟩ = some (.slice oPA onp opc) ∧ W'.cell? ⟨g5, 2, none⟩ = some (.slice oTA ont otc) ∧ W'.cell? ⟨g5, 3, none⟩ = some (.slice KA nk kc)))
              clear hw1 hpc y0 y1 y2 y3
              have hk0 : (0 : Int) ≤ (pnk : Int) := by omega
              have hk1 : (pnk : Int) < (pnk : Int) + 1 := by omega
              refine Y_take (i := 0) (n := 12) (.pointer (some ⟨gv, m * 4, none⟩)) rfl (by kernel_rfl) (by kernel_rfl) (by kernel_rfl) (by kernel_rfl) (fun _ _ _ h => h) (by rfl) (fun W hW => ?_) HSS.out ?_
              · obtain ⟨hW0, hW1, hW2, hW3, hW4⟩ := hW
                go_simp
                try (intro hx; omega)
              simp only [Act.put, List.setIfInBounds_toArray]
              refine Y_take (i := 1) (n := 11) (.pointer (some ⟨gv, m * 4, none⟩)) rfl (by kernel_rfl) (by kernel_rfl) (by kernel_rfl) (by kernel_rfl) (fun _ _ _ h => h) (by rfl) (fun W hW => ?_) HSS.out ?_
              · obtain ⟨hW0, hW1, hW2, hW3, hW4⟩ := hW
                go_simp
                try (intro hx; omega)
              simp only [Act.put]
              refine Y_take (i := 2) (n := 10) (.pointer (some ⟨gv, m * 4 + 3, none⟩)) rfl (by kernel_rfl) (by kernel_rfl) (by kernel_rfl) (by kernel_rfl) (fun _ _ _ h => h) (by rfl) (fun W hW => ?_) HSS.out ?_
              · obtain ⟨hW0, hW1, hW2, hW3, hW4⟩ := hW
                go_simp
                try (intro hx; omega)
              simp only [Act.put]
              refine Y_take (i := 3) (n := 9) (.slice pA pnk pkc) rfl (by kernel_rfl) (by kernel_rfl) (by kernel_rfl) (by kernel_rfl) (fun _ _ _ h => h) (by rfl) (fun W hW => ?_) HSS.out ?_
              · obtain ⟨hW0, hW1, hW2, hW3, hW4⟩ := hW
                go_simp
                try (intro hx; omega)
              simp only [Act.put]
              refine Y_take (i := 4) (n := 8) (.agg #[.bool lfo, .slice oPA onp opc, .slice oTA ont otc, .slice KA nk kc]) rfl (by kernel_rfl) (by kernel_rfl) (by kernel_rfl) (by kernel_rfl) (fun _ _ _ h => h) (by rfl) (fun W hW => ?_) HSS.out ?_
              · obtain ⟨hW0, hW1, hW2, hW3, hW4⟩ := hW
                go_simp
                try (intro hx; omega)
              simp only [Act.put]
              refine Y_take (i := 5) (n := 7) (.int .i64 pnk) rfl (by kernel_rfl) (by kernel_rfl) (by kernel_rfl) (by kernel_rfl) (fun _ _ _ h => h) (by rfl) (fun W hW => ?_) HSS.out ?_
              · obtain ⟨hW0, hW1, hW2, hW3, hW4⟩ := hW
                go_simp
                try (intro hx; omega)
              simp only [Act.put]
              refine Y_one (i := 6) (n := 6) (by kernel_rfl) rfl (fun K hK => ?_)
              rw [if_pos (by rfl)]
              go_simp
              refine hK _ _ (fun _ => HSK.out _ (Below.heap_alloc _ _ _ (by rw [HW1.out.1]; omega)) (Below.heap_alloc _ _ _ (by rw [HW1.out.1]; omega))) ?_
              clear hK K
              have one : ∀ u ∈ [Value.bool false, .slice none 0 0, .slice none 0 0, .slice none 0 0], u.oneCell' = true := by intro u hu; simp at hu; rcases hu with rfl | rfl | rfl <;> rfl
              have HPR1 := hd (row_kept (w' := w1) HPR.out fun b _ => by rw [HW1.out.1])
              have hw1s : w.heap.size + 1 ≤ w1.heap.size := by rw [HW1.out.1]; omega
              refine Y_one (i := 7) (n := 5) (by kernel_rfl) rfl (fun K hK => ?_)
              refine step_app1 nodeG w1 rfl (.tmp 50) (.tmp 53) rfl (w.heap.size + 1) (.slice pA pnk pkc) pnk (flatK p.us) [.bool false, .slice none 0 0, .slice none 0 0, .slice none 0 0] rfl HPR1.out rfl rfl one (by omega) (by decide) hw1s ?_
              intro A2 c3 w2 hown2 hgrow2 hat2
              obtain ⟨gk, rfl⟩ : ∃ gk, A2 = some ⟨gk, 0, none⟩ := by
                rcases hown2.2 with ⟨e, _⟩ | ⟨g, cap, cur, e, _⟩
                · simp at e
                · injection e with e1; exact ⟨g, e1⟩
              refine hK _ _ (fun h => absurd h (by decide)) ?_
              clear hK K one
              have HOW := hd hown2
              have HGR := hd hgrow2
              have HAT := hd hat2
              have hcs : ∀ k u, [Value.bool false, .slice none 0 0, .slice none 0 0, .slice none 0 0][k]? = some u → w2.cell? ⟨gk, pnk * 4 + k, none⟩ = some u ∧ w2.frozen? ⟨gk, pnk * 4 + k, none⟩ = false := fun k u hu =>
                row_cells hown2 (by rw [List.getElem?_append_right (by rw [HPR1.out.1]; omega), HPR1.out.1, show pnk * 4 + k - pnk * 4 = k by omega]; exact hu)
              obtain ⟨k0, l0⟩ := hcs 0 _ rfl
              obtain ⟨k1, l1⟩ := hcs 1 _ rfl
              obtain ⟨k2, l2⟩ := hcs 2 _ rfl
              obtain ⟨k3, l3⟩ := hcs 3 _ rfl
              rw [Nat.add_zero] at k0 l0
              have hgvp : p.vK.ownBlock ≠ some gv := fun e => (HSTs.out.kX p hpm).2 gv e rfl
              have hgvl' := (HSTs.out.own_lt (b := gv) rfl).1
              have hgvl : gv < w1.heap.size := by rw [HW1.out.1]; exact (HSTs.out.own_lt (b := gv) rfl).2
              have hgkv : gk ≠ gv := by
                rintro rfl
                rw [← HPV.out] at hat2
                rcases hat2 with e | ⟨g, e, hg⟩
                · exact hgvp e.symm
                · injection e with e
                  have e : gk = g := e
                  omega
              have hgvk : gv ≠ gk := Ne.symm hgkv
              have hgv2 : w2.heap[gv]? = w1.heap[gv]? := (hgrow2.block gv (by simp; omega) (fun e => hgvp (by rw [HPV.out]; exact e.symm))).trans (Below.heap_alloc _ _ _ hgvl)
              have v0 : w2.cell? ⟨gv, m * 4 + 3, none⟩ = some (.slice pA pnk pkc) := (World.cell?_of_block hgv2).trans HSS.out.1
              have v1 : w2.frozen? ⟨gv, m * 4 + 3, none⟩ = false := (World.frozen?_of_block hgv2).trans ((World.frozen?_of_block (by rw [HW1.out.1])).trans hpf)
              clear hcs hown2 hgrow2 hat2 hgv2 hpf
              refine Y_pure (i := 8) (n := 4) (.pointer (some ⟨gk, pnk * 4, none⟩)) rfl rfl (by kernel_rfl) (by kernel_rfl) (by kernel_rfl) (fun _ _ _ h => h) (by rfl) (fun W => ?_) ?_
              · go_simp
                try (intro hx; omega)
              simp only [Act.put]
              refine Y_pure (i := 10) (n := 3) (.pointer (some ⟨gv, m * 4, none⟩)) rfl rfl (by kernel_rfl) (by kernel_rfl) (by kernel_rfl) (fun _ _ _ h => h) (by rfl) (fun W => ?_) ?_
              · go_simp
                try (intro hx; omega)
              simp only [Act.put]
              refine Y_pure (i := 11) (n := 2) (.pointer (some ⟨gv, m * 4 + 3, none⟩)) rfl rfl (by kernel_rfl) (by kernel_rfl) (by kernel_rfl) (fun _ _ _ h => h) (by rfl) (fun W => ?_) ?_
              · go_simp
                try (intro hx; omega)
              simp only [Act.put]
              refine Y_two (i := 9) (j := 12) (n := 1) (by kernel_rfl) rfl rfl (fun K hK => ?_) (fun K hK => ?_)
              · rw [if_pos (by rfl)]
                go_simp
                refine hK _ _ (fun h => absurd h (by decide)) ?_
                clear hK K
                refine Y_one (i := 12) (n := 0) (by kernel_rfl) rfl (fun K hK => ?_)
                rw [if_pos (by rfl)]
                go_simp
                refine hK _ _ (fun h => absurd h (by decide)) (Y_done (by kernel_rfl) ?_)
                clear hK K
                generalize hW4 : World.setCell _ ⟨gv, m * 4 + 3, none⟩ _ = W4
                have h4 : W4 = (set4At w2 gk (pnk * 4) (.bool lfo) (.slice oPA onp opc) (.slice oTA ont otc) (.slice KA nk kc)).setCell ⟨gv, L1.length * 4 + 3, none⟩ (.slice (some ⟨gk, 0, none⟩) (pnk + 1) c3) ∨ W4 = set4At (w2.setCell ⟨gv, L1.length * 4 + 3, none⟩ (.slice (some ⟨gk, 0, none⟩) (pnk + 1) c3)) gk (pnk * 4) (.bool lfo) (.slice oPA onp opc) (.slice oTA ont otc) (.slice KA nk kc) := .inl (by rw [← HMm.out]; exact hW4.symm)
                clear hW4
                obtain ⟨hst4, hkb, hs4, ho4, ht4, hu4⟩ := kid_fin (Ws := Ws) (w1 := w1) (HMm.out ▸ HSTs.out) HOKs.out (fun b hb => by
                  obtain ⟨q1, q2, q3, q4, q5⟩ := HOBP.out b hb
                  exact ⟨q1, by omega, q3, q4, q5⟩) hksl hg5s HOV.out (fun k _ => by rw [HW1.out.1]) (by rw [HW1.out.1]; exact Nat.le_refl _) HPN.out HOW.out (HPV.out ▸ HGR.out) (HPV.out ▸ HAT.out) h4
                rw [← HMm.out] at hst4
                have hpx : ∀ b, b < w.heap.size + 1 → p.vK.ownBlock ≠ some b := fun b h1 e => by have := (HSTs.out.kid_lt hpm e).1; omega
                have hgvb : w.heap.size + 1 ≤ gv := hgvl'
                have HM4 : Hid (Mid R s w jp W4) := hd ⟨⟨(hkb R (by omega) (by omega) (hpx R (by omega))).trans HMs.out.rd.blk⟩, ⟨ho4.trans (HW1.out.2.1.trans HMs.out.off.os), ht4.trans (HW1.out.2.2.1.trans HMs.out.off.tape), hu4.trans (HW1.out.2.2.2.trans HMs.out.off.output), by have := HMs.out.off.size; omega, fun b q1 q2 => (hkb b (by have := HMs.out.off.size; omega) (by omega) (hpx b (by omega))).trans (HMs.out.off.block b q1 q2)⟩, ⟨(hkb _ HMs.out.out.lt (by omega) (hpx _ (by omega))).trans HMs.out.out.blk⟩, HMs.out.le⟩
                have HI4 : Hid (InRel R s w g5 (.slice (some ⟨gv, 0, none⟩) (m + 1) c) false jp W4) := hd ⟨_, L1, p.with1 (.slice (some ⟨gk, 0, none⟩) (pnk + 1) c3) o.val o.n, _, some ⟨gv, 0, none⟩, c, by rw [HMm.out], hst4, by omega, by
                  have q1 := htot
                  rw [tot_append, tot_append] at q1
                  rw [tot_append]
                  simp only [tot] at q1 ⊢
                  have q2 : (p.with1 (.slice (some ⟨gk, 0, none⟩) (pnk + 1) c3) o.val o.n).n.ks.length = p.n.ks.length + 1 := by simp [Opn.with1, addK, NT.ks]
                  omega, ⟨_, _, _, _, ⟨(hkb g5 hg5s (Ne.symm hgv5) (HSTs.out.kX p hpm).1).trans HG5s.out.blk⟩⟩, fun e => (nomatch e), fun _ => by rw [HN.out, stN_snoc]; rfl⟩
                clear hst4 hkb hs4 ho4 ht4 hu4 h4 k0 k1 k2 k3 l0 l1 l2 l3 v0 v1
                go_wp2
                go_roundw
                case rel => exact ⟨jp, false, rfl, hijp, HM4, HI4⟩
                case measure => have := HMm.out; simp [lenOf]; omega
              · rw [if_pos (by rfl)]
                go_simp
                refine hK _ _ (fun h => absurd h (by decide)) ?_
                clear hK K
                refine Y_one (i := 9) (n := 0) (by kernel_rfl) rfl (fun K hK => ?_)
                rw [if_pos (by rfl)]
                go_simp
                refine hK _ _ (fun h => absurd h (by decide)) (Y_done (by kernel_rfl) ?_)
                clear hK K
                generalize hW4 : World.setCell _ ⟨gk, pnk * 4 + 3, none⟩ _ = W4
                have h4 : W4 = (set4At w2 gk (pnk * 4) (.bool lfo) (.slice oPA onp opc) (.slice oTA ont otc) (.slice KA nk kc)).setCell ⟨gv, L1.length * 4 + 3, none⟩ (.slice (some ⟨gk, 0, none⟩) (pnk + 1) c3) ∨ W4 = set4At (w2.setCell ⟨gv, L1.length * 4 + 3, none⟩ (.slice (some ⟨gk, 0, none⟩) (pnk + 1) c3)) gk (pnk * 4) (.bool lfo) (.slice oPA onp opc) (.slice oTA ont otc) (.slice KA nk kc) := .inr (by rw [← HMm.out]; exact hW4.symm)
                clear hW4
                obtain ⟨hst4, hkb, hs4, ho4, ht4, hu4⟩ := kid_fin (Ws := Ws) (w1 := w1) (HMm.out ▸ HSTs.out) HOKs.out (fun b hb => by
                  obtain ⟨q1, q2, q3, q4, q5⟩ := HOBP.out b hb
                  exact ⟨q1, by omega, q3, q4, q5⟩) hksl hg5s HOV.out (fun k _ => by rw [HW1.out.1]) (by rw [HW1.out.1]; exact Nat.le_refl _) HPN.out HOW.out (HPV.out ▸ HGR.out) (HPV.out ▸ HAT.out) h4
                rw [← HMm.out] at hst4
                have hpx : ∀ b, b < w.heap.size + 1 → p.vK.ownBlock ≠ some b := fun b h1 e => by have := (HSTs.out.kid_lt hpm e).1; omega
                have hgvb : w.heap.size + 1 ≤ gv := hgvl'
                have HM4 : Hid (Mid R s w jp W4) := hd ⟨⟨(hkb R (by omega) (by omega) (hpx R (by omega))).trans HMs.out.rd.blk⟩, ⟨ho4.trans (HW1.out.2.1.trans HMs.out.off.os), ht4.trans (HW1.out.2.2.1.trans HMs.out.off.tape), hu4.trans (HW1.out.2.2.2.trans HMs.out.off.output), by have := HMs.out.off.size; omega, fun b q1 q2 => (hkb b (by have := HMs.out.off.size; omega) (by omega) (hpx b (by omega))).trans (HMs.out.off.block b q1 q2)⟩, ⟨(hkb _ HMs.out.out.lt (by omega) (hpx _ (by omega))).trans HMs.out.out.blk⟩, HMs.out.le⟩
                have HI4 : Hid (InRel R s w g5 (.slice (some ⟨gv, 0, none⟩) (m + 1) c) false jp W4) := hd ⟨_, L1, p.with1 (.slice (some ⟨gk, 0, none⟩) (pnk + 1) c3) o.val o.n, _, some ⟨gv, 0, none⟩, c, by rw [HMm.out], hst4, by omega, by
                  have q1 := htot
                  rw [tot_append, tot_append] at q1
                  rw [tot_append]
                  simp only [tot] at q1 ⊢
                  have q2 : (p.with1 (.slice (some ⟨gk, 0, none⟩) (pnk + 1) c3) o.val o.n).n.ks.length = p.n.ks.length + 1 := by simp [Opn.with1, addK, NT.ks]
                  omega, ⟨_, _, _, _, ⟨(hkb g5 hg5s (Ne.symm hgv5) (HSTs.out.kX p hpm).1).trans HG5s.out.blk⟩⟩, fun e => (nomatch e), fun _ => by rw [HN.out, stN_snoc]; rfl⟩
                clear hst4 hkb hs4 ho4 ht4 hu4 h4 k0 k1 k2 k3 l0 l1 l2 l3 v0 v1
                go_wp2
                go_roundw
                case rel => exact ⟨jp, false, rfl, hijp, HM4, HI4⟩
                case measure => have := HMm.out; simp [lenOf]; omega
          · have HC := hd (take_no R s j2 93 93 rfl wr HMr.out.rd (by omega) h93)
            have HGo := hd (HIr.out.go HMr.out.le h93)
            clear h93 HIr
            go_wp2_with fail
            refine HC.out.mono ?_
            rintro e w' ⟨rfl, kd, rfl⟩
            have HMx := hd (HMr.out.keep (HMr.out.rd.drewN kd) ((OffB.refl _ _ _).drewN kd) hgR HMr.out.le)
            have HGx := hd (HGo.out.keep ((OffB.refl _ _ _).drewN kd) hRl)
            have hpx := HMx.out.rd.rpos_eq
            have hlex := HMr.out.le
            clear HMr HGo
            go_wp2
            go_roundw
            case rel => exact ⟨j2, HMx, HGx⟩
            case measure => rw [hpx, hpos]; omega
        · obtain ⟨Wp, hWp⟩ : ∃ Wp : World, Wp = wr := ⟨_, rfl⟩
          subst hWp
          obtain ⟨jp, hjp⟩ : ∃ jp, jp = j2 := ⟨_, rfl⟩
          subst hjp
          have HMp := HMr
          have HIp := HIr
          have hijp := hij
          clear HMr HIr hij
          go_upto_region 9 with fail
          obtain ⟨Sp2, L2, o, d2, A, c, rfl, hst, hg5p, htot, ⟨z0, z1, z2, z3, hgv⟩, hN0, _⟩ := HIp.out
          have hN := hN0 rfl
          clear hN0
          obtain ⟨gv, rfl⟩ : ∃ gv, A = some ⟨gv, 0, none⟩ := by
            rcases hst.row.2 with ⟨e, _⟩ | ⟨g, cap, cur, e, _⟩
            · simp at e
            · injection e with e1; exact ⟨g, e1⟩
          obtain ⟨hstp, hokp, hobp⟩ := hst.pop
          have hgvl := hst.own_lt (b := gv) rfl
          have hgv5 : gv ≠ g5 := fun e => hst.vX (by rw [← e]; rfl)
          have hcell : ∀ k u, o.row4[k]? = some u → Wp.cell? ⟨gv, L2.length * 4 + k, none⟩ = some u := fun k u hu => by
            have hk : k < 4 := (List.getElem?_eq_some_iff.1 hu).1
            have hrow := hst.row
            rw [List.length_append, List.length_singleton] at hrow
            exact (row_cells hrow (by rw [flat_last L2 o k hk]; exact hu)).1
          have hl2 : L2.length ≤ 40000 := by have h1 := tot_len (L2 ++ [o]); rw [List.length_append] at h1; have := HMp.out.le; omega
          obtain ⟨lfo, hlfo⟩ : ∃ lfo, lfo = o.n.lf := ⟨_, rfl⟩
          have c0 := hcell 0 (.bool lfo) (by rw [hlfo]; rfl)
          have c1 := hcell 1 (.slice o.PA o.np o.pc) rfl
          have c2' := hcell 2 (.slice o.TA o.nt o.tc) rfl
          have c3 := hcell 3 o.vK rfl
          obtain ⟨ℓ, hℓ⟩ : ∃ ℓ, ℓ = L2.length := ⟨_, rfl⟩
          rw [← hℓ] at c0 c1 c2' c3 hl2 ⊢
          rw [Nat.add_zero] at c0
          obtain ⟨oPA, onp, opc, oTA, ont, otc, ovK, hov⟩ : ∃ oPA onp opc oTA ont otc ovK, o.row4 = [.bool lfo, .slice oPA onp opc, .slice oTA ont otc, ovK] ∧ o.PA = oPA ∧ o.np = onp ∧ o.pc = opc ∧ o.TA = oTA ∧ o.nt = ont ∧ o.tc = otc ∧ o.vK = ovK := ⟨_, _, _, _, _, _, _, by rw [hlfo]; rfl, rfl, rfl, rfl, rfl, rfl, rfl, rfl⟩
          obtain ⟨hov, o1, o2, o3, o4, o5, o6, o7⟩ := hov
          rw [o1, o2, o3] at c1
          rw [o4, o5, o6] at c2'
          rw [o7] at c3
          obtain ⟨KA, nk, kc, rfl⟩ : ∃ KA nk kc, ovK = .slice KA nk kc := by
            obtain ⟨KA, kc, e, _⟩ := rowFree hokp.row
            exact ⟨KA, _, kc, by rw [← o7]; exact e⟩
          have HST := hd hst
          have HSTP := hd hstp
          have HOKP := hd hokp
          have HOBP := hd hobp
          have HN := hd hN
          have HGV := hd hgv
          have HL := hd hℓ
          have HOV := hd hov
          have HLFO := hd hlfo
          have HO7 := hd o7
          have hcap : ℓ + 1 ≤ c := by
            obtain ⟨_, c', e, h1, _⟩ := rowFree hst.row
            injection e with _ e1 e2
            rw [List.length_append, List.length_singleton] at h1
            omega
          clear hℓ hst hstp hokp hobp hN hgv hcell hlfo hov o1 o2 o3 o4 o5 o6 o7 HIp
          go_upto_region 10 with fail
          refine Y_start (S := fun W => W.cell? ⟨gv, ℓ * 4, none⟩ = some (.bool lfo) ∧ W.cell? ⟨gv, ℓ * 4 + 1, none⟩ = some (.slice oPA onp opc) ∧ W.cell? ⟨gv, ℓ * 4 + 2, none⟩ = some (.slice oTA ont otc) ∧ W.cell? ⟨gv, ℓ * 4 + 3, none⟩ = some (.slice KA nk kc)) (z := fun _ => false) (by kernel_rfl) ?_
          obtain ⟨wd, hwd⟩ : ∃ wd, wd = Wp.drew := ⟨_, rfl⟩
          rw [← hwd]
          have HSS := hd (show wd.cell? ⟨gv, ℓ * 4, none⟩ = some (.bool lfo) ∧ wd.cell? ⟨gv, ℓ * 4 + 1, none⟩ = some (.slice oPA onp opc) ∧ wd.cell? ⟨gv, ℓ * 4 + 2, none⟩ = some (.slice oTA ont otc) ∧ wd.cell? ⟨gv, ℓ * 4 + 3, none⟩ = some (.slice KA nk kc) by rw [hwd]; exact ⟨c0, c1, c2', c3⟩)
          have HGVd := hd (show V4 g5 z0 z1 z2 z3 wd by rw [hwd]; exact ⟨HGV.out.blk⟩)
          have HDH := hd (show wd.heap = Wp.heap by rw [hwd]; rfl)
          have HDO := hd (show OffB R Wp.heap.size Wp wd by rw [hwd]; exact .of_below ((Below.refl _ _).drew) (Nat.le_refl _))
          clear hwd c0 c1 c2' c3
          have hi0 : (0 : Int) ≤ (ℓ : Int) := by omega
          have hi1 : (ℓ : Int) < (ℓ : Int) + 1 := by omega
          obtain ⟨f0, f1, f2, f3⟩ := HGVd.out.frees
          obtain ⟨e0, e1, e2, e3⟩ := HGVd.out.cells
          have HSK := hd (fun (W' : World) (hW' : W'.heap[gv]? = wd.heap[gv]?) => (⟨(World.cell?_of_block hW').trans HSS.out.1, (World.cell?_of_block hW').trans HSS.out.2.1, (World.cell?_of_block hW').trans HSS.out.2.2.1, (World.cell?_of_block hW').trans HSS.out.2.2.2⟩ : W'.cell? ⟨gv, ℓ * 4, none⟩ = some (.bool lfo) ∧ W'.cell? ⟨gv, ℓ * 4 + 1, none⟩ = some (.slice oPA onp opc) ∧ W'.cell? ⟨gv, ℓ * 4 + 2, none⟩ = some (.slice oTA ont otc) ∧ W'.cell? ⟨gv, ℓ * 4 + 3, none⟩ = some (.slice KA nk kc)))
          refine Y_take (i := 0) (n := 8) (.slice (some ⟨gv, 0, none⟩) (ℓ + 1) c) rfl (by kernel_rfl) (by kernel_rfl) (by kernel_rfl) (by kernel_rfl) (fun _ _ _ h => h) (by rfl) (fun W hW => ?_) HSS.out ?_
          · obtain ⟨hW0, hW1, hW2, hW3⟩ := hW
            go_simp
            try (intro hx; omega)
          simp only [Act.put, List.setIfInBounds_toArray]
          refine Y_take (i := 1) (n := 7) (.int .i64 ℓ) rfl (by kernel_rfl) (by kernel_rfl) (by kernel_rfl) (by kernel_rfl) (fun _ _ _ h => h) (by rfl) (fun W hW => ?_) HSS.out ?_
          · obtain ⟨hW0, hW1, hW2, hW3⟩ := hW
            go_simp
            try (intro hx; omega)
          simp only [Act.put]
          refine Y_take (i := 2) (n := 6) (.pointer (some ⟨gv, ℓ * 4, none⟩)) rfl (by kernel_rfl) (by kernel_rfl) (by kernel_rfl) (by kernel_rfl) (fun _ _ _ h => h) (by rfl) (fun W hW => ?_) HSS.out ?_
          · obtain ⟨hW0, hW1, hW2, hW3⟩ := hW
            go_simp
            try (intro hx; omega)
          simp only [Act.put]
          refine Y_take (i := 3) (n := 5) (.agg #[.bool lfo, .slice oPA onp opc, .slice oTA ont otc, .slice KA nk kc]) rfl (by kernel_rfl) (by kernel_rfl) (by kernel_rfl) (by kernel_rfl) (fun _ _ _ h => h) (by rfl) (fun W hW => ?_) HSS.out ?_
          · obtain ⟨hW0, hW1, hW2, hW3⟩ := hW
            go_simp
            try (intro hx; omega)
          simp only [Act.put]
          refine Y_take (i := 4) (n := 4) (.slice (some ⟨gv, 0, none⟩) (ℓ + 1) c) rfl (by kernel_rfl) (by kernel_rfl) (by kernel_rfl) (by kernel_rfl) (fun _ _ _ h => h) (by rfl) (fun W hW => ?_) HSS.out ?_
          · obtain ⟨hW0, hW1, hW2, hW3⟩ := hW
            go_simp
            try (intro hx; omega)
          simp only [Act.put]
          refine Y_take (i := 5) (n := 3) (.int .i64 ℓ) rfl (by kernel_rfl) (by kernel_rfl) (by kernel_rfl) (by kernel_rfl) (fun _ _ _ h => h) (by rfl) (fun W hW => ?_) HSS.out ?_
          · obtain ⟨hW0, hW1, hW2, hW3⟩ := hW
            go_simp
            try (intro hx; omega)
          simp only [Act.put]
          refine Y_take (i := 6) (n := 2) (.slice (some ⟨gv, 0, none⟩) ℓ c) rfl (by kernel_rfl) (by kernel_rfl) (by kernel_rfl) (by kernel_rfl) (fun _ _ _ h => h) (by rfl) (fun W hW => ?_) HSS.out ?_
          · obtain ⟨hW0, hW1, hW2, hW3⟩ := hW
            go_simp
            try (intro hx; omega)
          simp only [Act.put]
          refine Y_one (i := 7) (n := 1) (by kernel_rfl) rfl (fun K hK => ?_)
          rw [if_pos (by rfl)]
          go_simp
          have HW4 := hd (show (set4At wd g5 0 (.bool lfo) (.slice oPA onp opc) (.slice oTA ont otc) (.slice KA nk kc)).heap[gv]? = wd.heap[gv]? from set4_far hgv5)
          refine hK _ _ (fun _ => HSK.out _ HW4.out) ?_
          clear hK K
          refine Y_one (i := 8) (n := 0) (by kernel_rfl) rfl (fun K hK => ?_)
          rw [if_pos (by rfl)]
          go_simp
          refine hK _ _ (fun _ => HSK.out _ HW4.out) (Y_done (by kernel_rfl) ?_)
          clear hK K HW4 HSK e0 e1 e2 e3 f0 f1 f2 f3
          generalize hWs : World.setCell _ ⟨g5, 3, none⟩ _ = Ws
          have hse : set4At wd g5 0 (.bool lfo) (.slice oPA onp opc) (.slice oTA ont otc) (.slice KA nk kc) = Ws := hWs
          have hsz : Ws.heap.size = Wp.heap.size := by rw [← hse, set4_sz, HDH.out]
          have HKs := hd (fun (b : Nat) (hb : b ≠ g5) => (show Ws.heap[b]? = Wp.heap[b]? by rw [← hse, set4_far hb, HDH.out]))
          have HG5s := hd (show V4 g5 (.bool lfo) (.slice oPA onp opc) (.slice oTA ont otc) (.slice KA nk kc) Ws from hWs ▸ ((((HGVd.out.set0 _).set1 _).set2 _).set3 _))
          have hgp := HMp.out.out.lt
          have HMs : Hid (Mid R s w jp Ws) := hd ⟨⟨(HKs.out R hgR5).trans HMp.out.rd.blk⟩, ⟨by rw [← hse]; exact HDO.out.os.trans HMp.out.off.os, by rw [← hse]; exact HDO.out.tape.trans HMp.out.off.tape, by rw [← hse]; exact HDO.out.output.trans HMp.out.off.output, by have := HMp.out.off.size; omega, fun b h1 h2 => (HKs.out b (by omega)).trans (HMp.out.off.block b h1 h2)⟩, ⟨(HKs.out _ (by omega)).trans HMp.out.out.blk⟩, HMp.out.le⟩
          have HSTs := hd (HL.out ▸ HSTP.out.keep (w' := Ws) (by omega) (fun b _ _ h3 => HKs.out b h3) : Stk Sp2 (w.heap.size + 1) d2 Ws (.slice (some ⟨gv, 0, none⟩) ℓ c) L2 g5)
          have HOKs := hd (HOKP.out.keep (w' := Ws) (fun _ h => h) fun b hb => HKs.out b (by
            rcases hb with hb | hb
            · exact (HST.out.sp b hb).2.2.1
            · exact (HOBP.out b hb).2.2.1))
          have hksl : o.n.ks.length ≤ 40000 := by have h1 := htot; rw [tot_append] at h1; simp only [tot] at h1; have := HMp.out.le; omega
          have hg5s : g5 < Ws.heap.size := by omega
          have HOV2 := hd (Opn.val_of HOV.out)
          clear hWs hse HGVd HGV HDH HDO HKs HSTP HOKP HSS
          by_cases hl0 : ℓ = 0
          · have HL2 := hd (show L2 = [] from List.eq_nil_of_length_eq_zero (by rw [← HL.out]; exact hl0))
            have HF := hd (show nodeW s.data.toList 0 = .ok o.n jp by rw [HN.out, HL2.out]; rfl)
            have HT := hd (HOKs.out.tree (Sq := fun b => w.heap.size + 1 ≤ b ∧ b < Ws.heap.size) hksl (fun b hb => by have := HSTs.out.sp b hb; exact ⟨this.1, this.2.1⟩) (fun b hb => by have := HOBP.out b hb; exact ⟨this.1, by omega⟩))
            rw [HOV2.out] at HT
            have HT := hd HT.out
            have hlb : ((ℓ : Int) == 0) = true := by simp [hl0]
            clear hl0
            obtain ⟨x0, x1, x2, x3⟩ := HMs.out.out.cells
            obtain ⟨f0, f1, f2, f3⟩ := HMs.out.out.frees
            obtain ⟨y0, y1, y2, y3⟩ := HG5s.out.cells
            go_wp2
            refine bodyPost_ret (v := .tuple #[.agg #[.bool lfo, .slice oPA onp opc, .slice oTA ont otc, .slice KA nk kc], .int .i64 0]) (by simp [results, Tryd.results28, go_sem, x0, x1, x2, x3]) rfl ?_
            rw [HF.out]
            refine ⟨HMs.out.off.far4 (Nat.le_refl _) _ _ _ _, HMs.out.rd.far4 hgR _ _ _ _, _, _, rfl, HT.out.keep (fun b hb => ⟨by omega, by simpa using hb.2⟩) fun p hp => ?_⟩
            have := ((Off2.refl R w.heap.size Ws).set4 (.bool lfo) (.slice oPA onp opc) (.slice oTA ont otc) (.slice KA nk kc)).block p.block hp.2 (by omega) (by omega)
            exact ⟨World.cell?_of_block this, World.frozen?_of_block this⟩
          · obtain ⟨m, hm⟩ : ∃ m, ℓ = m + 1 := ⟨ℓ - 1, by omega⟩
            obtain ⟨L1, p, hLp⟩ : ∃ L1 p, L2 = L1 ++ [p] := by
              rcases List.eq_nil_or_concat L2 with e | ⟨L1, p, e⟩
              · exact absurd (by rw [HL.out, e]; rfl) hl0
              · exact ⟨L1, p, by rw [e, List.concat_eq_append]⟩
            subst hLp
            subst hm
            have HMm := hd (show m = L1.length by have := HL.out; simp at this; omega)
            have hlb : (((m + 1 : Nat) : Int) == 0) = false := by rw [beq_eq_false_iff_ne]; omega
            have hlb2 : ((m : Int) + 1 == 0) = false := by rw [beq_eq_false_iff_ne]; omega
            clear hl0
            go_upto_region 13 with fail
            have hj0 : (0 : Int) ≤ (m : Int) := by omega
            have hj1 : (m : Int) < (m : Int) + 1 := by omega
            go_upto_region 14 with fail
            have hpm : p ∈ L1 ++ [p] := List.mem_append.2 (.inr (List.mem_singleton.2 rfl))
            have hokpp := HSTs.out.ok p hpm
            obtain ⟨pnk, hpnk⟩ : ∃ pnk, pnk = p.n.ks.length := ⟨_, rfl⟩
            obtain ⟨pA, pkc, hpv⟩ : ∃ pA pkc, p.vK = .slice pA pnk pkc := by
              obtain ⟨A', c', e, _⟩ := rowFree hokpp.row
              exact ⟨A', c', by rw [e, hpnk]⟩
            have hpc : Ws.cell? ⟨gv, m * 4 + 3, none⟩ = some (.slice pA pnk pkc) := by
              have hrow := HSTs.out.row
              rw [List.length_append, List.length_singleton, ← HMm.out] at hrow
              have h1 := flat_last L1 p 3 (by omega)
              rw [← HMm.out] at h1
              exact (row_cells hrow (by rw [h1, ← hpv]; rfl)).1
            have hpf : Ws.frozen? ⟨gv, m * 4 + 3, none⟩ = false := by
              have hrow := HSTs.out.row
              rw [List.length_append, List.length_singleton, ← HMm.out] at hrow
              exact hrow.frozenAt _
            have hpl : pnk ≤ 40000 := by have h1 := htot; rw [tot_append, tot_append] at h1; simp only [tot] at h1; have := HMp.out.le; omega
            have HPR := hd (show Ws.ownsRow (w.heap.size + 1) 26 4 (.slice pA pnk pkc) pnk (flatK p.us) by rw [hpnk, ← hpv, hpnk] at *; exact hokpp.row)
            have HPV := hd hpv
            have HPN := hd hpnk
            clear hokpp hpv hpnk
            refine Y_start (S := fun W => W.cell? ⟨gv, m * 4 + 3, none⟩ = some (.slice pA pnk pkc) ∧ W.cell? ⟨g5, 0, none⟩ = some (.bool lfo) ∧ W.cell? ⟨g5, 1, none⟩ = some (.slice oPA onp opc) ∧ W.cell? ⟨g5, 2, none⟩ = some (.slice oTA ont otc) ∧ W.cell? ⟨g5, 3, none⟩ = some (.slice KA nk kc)) (z := fun k => decide (7 ≤ k)) (by kernel_rfl) ?_
            obtain ⟨w1, hw1⟩ : ∃ w1, w1 = Ws.drew := ⟨_, rfl⟩
            rw [← hw1]
            have HW1 := hd (show w1.heap = Ws.heap ∧ w1.os = Ws.os ∧ w1.tape = Ws.tape ∧ w1.output = Ws.output by rw [hw1]; exact ⟨rfl, rfl, rfl, rfl⟩)
            obtain ⟨y0, y1, y2, y3⟩ := HG5s.out.cells
            have HSS := hd (show w1.cell? ⟨gv, m * 4 + 3, none⟩ = some (.slice pA pnk pkc) ∧ w1.cell? ⟨g5, 0, none⟩ = some (.bool lfo) ∧ w1.cell? ⟨g5, 1, none⟩ = some (.slice oPA onp opc) ∧ w1.cell? ⟨g5, 2, none⟩ = some (.slice oTA ont otc) ∧ w1.cell? ⟨g5, 3, none⟩ = some (.slice KA nk kc) by rw [hw1]; exact ⟨hpc, y0, y1, y2, y3⟩)
            have HSK := hd (fun (W' : World) (h1 : W'.heap[gv]? = w1.heap[gv]?) (h2 : W'.heap[g5]? = w1.heap[g5]?) => (⟨(World.cell?_of_block h1).trans HSS.out.1, (World.cell?_of_block h2).trans HSS.out.2.1, (World.cell?_of_block h2).trans HSS.out.2.2.1, (World.cell?_of_block h2).trans HSS.out.2.2.2.1, (World.cell?_of_block h2).trans HSS.out.2.2.2.2⟩ : W'.cell? ⟨gv, m * 4 + 3, none⟩ = some (.slice pA pnk pkc) ∧ W'.cell? ⟨g5, 0, none⟩ = some (.bool lfo) ∧ W'.cell? ⟨g5, 1, none⟩ = some (.slice oPA onp opc) ∧ W'.cell? ⟨g5, 2, none⟩ = some (.slice oTA ont otc) ∧ W'.cell? ⟨g5, 3, none⟩ = some (.slice KA nk kc)))
            clear hw1 hpc y0 y1 y2 y3
            have hk0 : (0 : Int) ≤ (pnk : Int) := by omega
            have hk1 : (pnk : Int) < (pnk : Int) + 1 := by omega
            refine Y_take (i := 0) (n := 12) (.pointer (some ⟨gv, m * 4, none⟩)) rfl (by kernel_rfl) (by kernel_rfl) (by kernel_rfl) (by kernel_rfl) (fun _ _ _ h => h) (by rfl) (fun W hW => ?_) HSS.out ?_
            · obtain ⟨hW0, hW1, hW2, hW3, hW4⟩ := hW
              go_simp
              try (intro hx; omega)
            simp only [Act.put, List.setIfInBounds_toArray]
            refine Y_take (i := 1) (n := 11) (.pointer (some ⟨gv, m * 4, none⟩)) rfl (by kernel_rfl) (by kernel_rfl) (by kernel_rfl) (by kernel_rfl) (fun _ _ _ h => h) (by rfl) (fun W hW => ?_) HSS.out ?_
            · obtain ⟨hW0, hW1, hW2, hW3, hW4⟩ := hW
              go_simp
              try (intro hx; omega)
            simp only [Act.put]
            refine Y_take (i := 2) (n := 10) (.pointer (some ⟨gv, m * 4 + 3, none⟩)) rfl (by kernel_rfl) (by kernel_rfl) (by kernel_rfl) (by kernel_rfl) (fun _ _ _ h => h) (by rfl) (fun W hW => ?_) HSS.out ?_
            · obtain ⟨hW0, hW1, hW2, hW3, hW4⟩ := hW
              go_simp
              try (intro hx; omega)
            simp only [Act.put]
            refine Y_take (i := 3) (n := 9) (.slice pA pnk pkc) rfl (by kernel_rfl) (by kernel_rfl) (by kernel_rfl) (by kernel_rfl) (fun _ _ _ h => h) (by rfl) (fun W hW => ?_) HSS.out ?_
            · obtain ⟨hW0, hW1, hW2, hW3, hW4⟩ := hW
              go_simp
              try (intro hx; omega)
            simp only [Act.put]
            refine Y_take (i := 4) (n := 8) (.agg #[.bool lfo, .slice oPA onp opc, .slice oTA ont otc, .slice KA nk kc]) rfl (by kernel_rfl) (by kernel_rfl) (by kernel_rfl) (by kernel_rfl) (fun _ _ _ h => h) (by rfl) (fun W hW => ?_) HSS.out ?_
            · obtain ⟨hW0, hW1, hW2, hW3, hW4⟩ := hW
              go_simp
              try (intro hx; omega)
            simp only [Act.put]
            refine Y_take (i := 5) (n := 7) (.int .i64 pnk) rfl (by kernel_rfl) (by kernel_rfl) (by kernel_rfl) (by kernel_rfl) (fun _ _ _ h => h) (by rfl) (fun W hW => ?_) HSS.out ?_
            · obtain ⟨hW0, hW1, hW2, hW3, hW4⟩ := hW
              go_simp
              try (intro hx; omega)
            simp only [Act.put]
            refine Y_one (i := 6) (n := 6) (by kernel_rfl) rfl (fun K hK => ?_)
            rw [if_pos (by rfl)]
            go_simp
            refine hK _ _ (fun _ => HSK.out _ (Below.heap_alloc _ _ _ (by rw [HW1.out.1]; omega)) (Below.heap_alloc _ _ _ (by rw [HW1.out.1]; omega))) ?_
            clear hK K
            have one : ∀ u ∈ [Value.bool false, .slice none 0 0, .slice none 0 0, .slice none 0 0], u.oneCell' = true := by intro u hu; simp at hu; rcases hu with rfl | rfl | rfl <;> rfl
            have HPR1 := hd (row_kept (w' := w1) HPR.out fun b _ => by rw [HW1.out.1])
            have hw1s : w.heap.size + 1 ≤ w1.heap.size := by rw [HW1.out.1]; omega
            refine Y_one (i := 7) (n := 5) (by kernel_rfl) rfl (fun K hK => ?_)
            refine step_app1 nodeG w1 rfl (.tmp 50) (.tmp 53) rfl (w.heap.size + 1) (.slice pA pnk pkc) pnk (flatK p.us) [.bool false, .slice none 0 0, .slice none 0 0, .slice none 0 0] rfl HPR1.out rfl rfl one (by omega) (by decide) hw1s ?_
            intro A2 c3 w2 hown2 hgrow2 hat2
            obtain ⟨gk, rfl⟩ : ∃ gk, A2 = some ⟨gk, 0, none⟩ := by
              rcases hown2.2 with ⟨e, _⟩ | ⟨g, cap, cur, e, _⟩
              · simp at e
              · injection e with e1; exact ⟨g, e1⟩
            refine hK _ _ (fun h => absurd h (by decide)) ?_
            clear hK K one
            have HOW := hd hown2
            have HGR := hd hgrow2
            have HAT := hd hat2
            have hcs : ∀ k u, [Value.bool false, .slice none 0 0, .slice none 0 0, .slice none 0 0][k]? = some u → w2.cell? ⟨gk, pnk * 4 + k, none⟩ = some u ∧ w2.frozen? ⟨gk, pnk * 4 + k, none⟩ = false := fun k u hu =>
              row_cells hown2 (by rw [List.getElem?_append_right (by rw [HPR1.out.1]; omega), HPR1.out.1, show pnk * 4 + k - pnk * 4 = k by omega]; exact hu)
            obtain ⟨k0, l0⟩ := hcs 0 _ rfl
            obtain ⟨k1, l1⟩ := hcs 1 _ rfl
            obtain ⟨k2, l2⟩ := hcs 2 _ rfl
            obtain ⟨k3, l3⟩ := hcs 3 _ rfl
            rw [Nat.add_zero] at k0 l0
            have hgvp : p.vK.ownBlock ≠ some gv := fun e => (HSTs.out.kX p hpm).2 gv e rfl
            have hgvl' := (HSTs.out.own_lt (b := gv) rfl).1
            have hgvl : gv < w1.heap.size := by rw [HW1.out.1]; exact (HSTs.out.own_lt (b := gv) rfl).2
            have hgkv : gk ≠ gv := by
              rintro rfl
              rw [← HPV.out] at hat2
              rcases hat2 with e | ⟨g, e, hg⟩
              · exact hgvp e.symm
              · injection e with e
                have e : gk = g := e
                omega
            have hgvk : gv ≠ gk := Ne.symm hgkv
            have hgv2 : w2.heap[gv]? = w1.heap[gv]? := (hgrow2.block gv (by simp; omega) (fun e => hgvp (by rw [HPV.out]; exact e.symm))).trans (Below.heap_alloc _ _ _ hgvl)
            have v0 : w2.cell? ⟨gv, m * 4 + 3, none⟩ = some (.slice pA pnk pkc) := (World.cell?_of_block hgv2).trans HSS.out.1
            have v1 : w2.frozen? ⟨gv, m * 4 + 3, none⟩ = false := (World.frozen?_of_block hgv2).trans ((World.frozen?_of_block (by rw [HW1.out.1])).trans hpf)
            clear hcs hown2 hgrow2 hat2 hgv2 hpf
            refine Y_pure (i := 8) (n := 4) (.pointer (some ⟨gk, pnk * 4, none⟩)) rfl rfl (by kernel_rfl) (by kernel_rfl) (by kernel_rfl) (fun _ _ _ h => h) (by rfl) (fun W => ?_) ?_
            · go_simp
              try (intro hx; omega)
            simp only [Act.put]
            refine Y_pure (i := 10) (n := 3) (.pointer (some ⟨gv, m * 4, none⟩)) rfl rfl (by kernel_rfl) (by kernel_rfl) (by kernel_rfl) (fun _ _ _ h => h) (by rfl) (fun W => ?_) ?_
            · go_simp
              try (intro hx; omega)
            simp only [Act.put]
            refine Y_pure (i := 11) (n := 2) (.pointer (some ⟨gv, m * 4 + 3, none⟩)) rfl rfl (by kernel_rfl) (by kernel_rfl) (by kernel_rfl) (fun _ _ _ h => h) (by rfl) (fun W => ?_) ?_
            · go_simp
              try (intro hx; omega)
            simp only [Act.put]
            refine Y_two (i := 9) (j := 12) (n := 1) (by kernel_rfl) rfl rfl (fun K hK => ?_) (fun K hK => ?_)
            · rw [if_pos (by rfl)]
              go_simp
              refine hK _ _ (fun h => absurd h (by decide)) ?_
              clear hK K
              refine Y_one (i := 12) (n := 0) (by kernel_rfl) rfl (fun K hK => ?_)
              rw [if_pos (by rfl)]
              go_simp
              refine hK _ _ (fun h => absurd h (by decide)) (Y_done (by kernel_rfl) ?_)
              clear hK K
              generalize hW4 : World.setCell _ ⟨gv, m * 4 + 3, none⟩ _ = W4
              have h4 : W4 = (set4At w2 gk (pnk * 4) (.bool lfo) (.slice oPA onp opc) (.slice oTA ont otc) (.slice KA nk kc)).setCell ⟨gv, L1.length * 4 + 3, none⟩ (.slice (some ⟨gk, 0, none⟩) (pnk + 1) c3) ∨ W4 = set4At (w2.setCell ⟨gv, L1.length * 4 + 3, none⟩ (.slice (some ⟨gk, 0, none⟩) (pnk + 1) c3)) gk (pnk * 4) (.bool lfo) (.slice oPA onp opc) (.slice oTA ont otc) (.slice KA nk kc) := .inl (by rw [← HMm.out]; exact hW4.symm)
              clear hW4
              obtain ⟨hst4, hkb, hs4, ho4, ht4, hu4⟩ := kid_fin (Ws := Ws) (w1 := w1) (HMm.out ▸ HSTs.out) HOKs.out (fun b hb => by
                obtain ⟨q1, q2, q3, q4, q5⟩ := HOBP.out b hb
                exact ⟨q1, by omega, q3, q4, q5⟩) hksl hg5s HOV.out (fun k _ => by rw [HW1.out.1]) (by rw [HW1.out.1]; exact Nat.le_refl _) HPN.out HOW.out (HPV.out ▸ HGR.out) (HPV.out ▸ HAT.out) h4
              rw [← HMm.out] at hst4
              have hpx : ∀ b, b < w.heap.size + 1 → p.vK.ownBlock ≠ some b := fun b h1 e => by have := (HSTs.out.kid_lt hpm e).1; omega
              have hgvb : w.heap.size + 1 ≤ gv := hgvl'
              have HM4 : Hid (Mid R s w jp W4) := hd ⟨⟨(hkb R (by omega) (by omega) (hpx R (by omega))).trans HMs.out.rd.blk⟩, ⟨ho4.trans (HW1.out.2.1.trans HMs.out.off.os), ht4.trans (HW1.out.2.2.1.trans HMs.out.off.tape), hu4.trans (HW1.out.2.2.2.trans HMs.out.off.output), by have := HMs.out.off.size; omega, fun b q1 q2 => (hkb b (by have := HMs.out.off.size; omega) (by omega) (hpx b (by omega))).trans (HMs.out.off.block b q1 q2)⟩, ⟨(hkb _ HMs.out.out.lt (by omega) (hpx _ (by omega))).trans HMs.out.out.blk⟩, HMs.out.le⟩
              have HI4 : Hid (InRel R s w g5 (.slice (some ⟨gv, 0, none⟩) (m + 1) c) false jp W4) := hd ⟨_, L1, p.with1 (.slice (some ⟨gk, 0, none⟩) (pnk + 1) c3) o.val o.n, _, some ⟨gv, 0, none⟩, c, by rw [HMm.out], hst4, by omega, by
                have q1 := htot
                rw [tot_append, tot_append] at q1
                rw [tot_append]
                simp only [tot] at q1 ⊢
                have q2 : (p.with1 (.slice (some ⟨gk, 0, none⟩) (pnk + 1) c3) o.val o.n).n.ks.length = p.n.ks.length + 1 := by simp [Opn.with1, addK, NT.ks]
                omega, ⟨_, _, _, _, ⟨(hkb g5 hg5s (Ne.symm hgv5) (HSTs.out.kX p hpm).1).trans HG5s.out.blk⟩⟩, fun e => (nomatch e), fun _ => by rw [HN.out, stN_snoc]; rfl⟩
              clear hst4 hkb hs4 ho4 ht4 hu4 h4 k0 k1 k2 k3 l0 l1 l2 l3 v0 v1
              go_wp2
              go_roundw
              case rel => exact ⟨jp, false, rfl, hijp, HM4, HI4⟩
              case measure => have := HMm.out; simp [lenOf]; omega
            · rw [if_pos (by rfl)]
              go_simp
              refine hK _ _ (fun h => absurd h (by decide)) ?_
              clear hK K
              refine Y_one (i := 9) (n := 0) (by kernel_rfl) rfl (fun K hK => ?_)
              rw [if_pos (by rfl)]
              go_simp
              refine hK _ _ (fun h => absurd h (by decide)) (Y_done (by kernel_rfl) ?_)
              clear hK K
              generalize hW4 : World.setCell _ ⟨gk, pnk * 4 + 3, none⟩ _ = W4
              have h4 : W4 = (set4At w2 gk (pnk * 4) (.bool lfo) (.slice oPA onp opc) (.slice oTA ont otc) (.slice KA nk kc)).setCell ⟨gv, L1.length * 4 + 3, none⟩ (.slice (some ⟨gk, 0, none⟩) (pnk + 1) c3) ∨ W4 = set4At (w2.setCell ⟨gv, L1.length * 4 + 3, none⟩ (.slice (some ⟨gk, 0, none⟩) (pnk + 1) c3)) gk (pnk * 4) (.bool lfo) (.slice oPA onp opc) (.slice oTA ont otc) (.slice KA nk kc) := .inr (by rw [← HMm.out]; exact hW4.symm)
              clear hW4
              obtain ⟨hst4, hkb, hs4, ho4, ht4, hu4⟩ := kid_fin (Ws := Ws) (w1 := w1) (HMm.out ▸ HSTs.out) HOKs.out (fun b hb => by
                obtain ⟨q1, q2, q3, q4, q5⟩ := HOBP.out b hb
                exact ⟨q1, by omega, q3, q4, q5⟩) hksl hg5s HOV.out (fun k _ => by rw [HW1.out.1]) (by rw [HW1.out.1]; exact Nat.le_refl _) HPN.out HOW.out (HPV.out ▸ HGR.out) (HPV.out ▸ HAT.out) h4
              rw [← HMm.out] at hst4
              have hpx : ∀ b, b < w.heap.size + 1 → p.vK.ownBlock ≠ some b := fun b h1 e => by have := (HSTs.out.kid_lt hpm e).1; omega
              have hgvb : w.heap.size + 1 ≤ gv := hgvl'
              have HM4 : Hid (Mid R s w jp W4) := hd ⟨⟨(hkb R (by omega) (by omega) (hpx R (by omega))).trans HMs.out.rd.blk⟩, ⟨ho4.trans (HW1.out.2.1.trans HMs.out.off.os), ht4.trans (HW1.out.2.2.1.trans HMs.out.off.tape), hu4.trans (HW1.out.2.2.2.trans HMs.out.off.output), by have := HMs.out.off.size; omega, fun b q1 q2 => (hkb b (by have := HMs.out.off.size; omega) (by omega) (hpx b (by omega))).trans (HMs.out.off.block b q1 q2)⟩, ⟨(hkb _ HMs.out.out.lt (by omega) (hpx _ (by omega))).trans HMs.out.out.blk⟩, HMs.out.le⟩
              have HI4 : Hid (InRel R s w g5 (.slice (some ⟨gv, 0, none⟩) (m + 1) c) false jp W4) := hd ⟨_, L1, p.with1 (.slice (some ⟨gk, 0, none⟩) (pnk + 1) c3) o.val o.n, _, some ⟨gv, 0, none⟩, c, by rw [HMm.out], hst4, by omega, by
                have q1 := htot
                rw [tot_append, tot_append] at q1
                rw [tot_append]
                simp only [tot] at q1 ⊢
                have q2 : (p.with1 (.slice (some ⟨gk, 0, none⟩) (pnk + 1) c3) o.val o.n).n.ks.length = p.n.ks.length + 1 := by simp [Opn.with1, addK, NT.ks]
                omega, ⟨_, _, _, _, ⟨(hkb g5 hg5s (Ne.symm hgv5) (HSTs.out.kX p hpm).1).trans HG5s.out.blk⟩⟩, fun e => (nomatch e), fun _ => by rw [HN.out, stN_snoc]; rfl⟩
              clear hst4 hkb hs4 ho4 ht4 hu4 h4 k0 k1 k2 k3 l0 l1 l2 l3 v0 v1
              go_wp2
              go_roundw
              case rel => exact ⟨jp, false, rfl, hijp, HM4, HI4⟩
              case measure => have := HMm.out; simp [lenOf]; omega

end Go.Proofs.YtknkclbjocfhiaaDoor

namespace Go.Proofs.YtknkclbjocfhiaaDoor
open Go.RowKit

/-- What Parse tells. -/
def ParseOk (r : NT × Nat × Int) (w : World) (e : Ending) (w' : World) : Prop :=
  ∃ u d, e = .returned (.tuple #[u, .int .i64 r.2.1, .int .i64 r.2.2]) ∧ TreeP (fun b => w.heap.size ≤ b ∧ b < w'.heap.size) d w' u r.1 ∧ Below w.heap.size w w'
set_option maxRecDepth 4000 in
theorem noT_tree (P : Nat → Prop) (w : World) : TreeP P 1 w (.agg #[.bool false, .slice none 0 0, .slice none 0 0, .slice none 0 0]) noT :=
  ⟨none, 0, none, 0, none, 0, rfl, fun k u h => by simp [pv, noT, NT.ps] at h, fun k u h => by simp [rv, noT, NT.tx] at h, ⟨⟨by simp [noT, NT.ps], by simp [noT, NT.ps]⟩, by simp [noT, NT.ps], by simp [noT, NT.tx], by simp [noT, NT.ks], by simp [noT, NT.ps], by simp [noT, NT.tx], by simp [noT, NT.ks]⟩, fun k m h => by simp [noT, NT.ks] at h⟩

set_option maxRecDepth 4000 in
set_option maxHeartbeats 8000000 in
theorem parse_any (s : ByteArray) (w : World) (hs : s.size ≤ 40000) :
    Calls Tryd.prog 13 #[.string s] w (ParseOk (parseL s.data.toList) w) := by
  obtain ⟨W1, hW1⟩ : ∃ W1, W1 = w.alloc (.cells #[.bool false, .slice none 0 0, .slice none 0 0, .slice none 0 0] 26) := ⟨_, rfl⟩
  obtain ⟨W2, hW2⟩ : ∃ W2, W2 = W1.alloc (.cells #[.string s, .int .i64 0] 59) := ⟨_, rfl⟩
  have hz1 : W1.heap.size = w.heap.size + 1 := by rw [hW1]; simp
  have hz2 : W2.heap.size = w.heap.size + 2 := by rw [hW2]; simp; omega
  have HR2 := hd (show Rd (w.heap.size + 1) s 0 W2 from hz1 ▸ hW2 ▸ ⟨newBlkAt W1 _ _⟩)
  have HV2 := hd (show V4 w.heap.size (.bool false) (.slice none 0 0) (.slice none 0 0) (.slice none 0 0) W2 from hW2 ▸ (hW1 ▸ V4.new w _ _ _ _ : V4 w.heap.size (.bool false) (.slice none 0 0) (.slice none 0 0) (.slice none 0 0) W1).below ((Below.refl _ _).alloc (Nat.le_refl _) _))
  have HB2 := hd (show Below w.heap.size w W2 from hW2 ▸ (hW1 ▸ (Below.refl _ _).alloc (Nat.le_refl _) _ : Below w.heap.size w W1).alloc (by omega) _)
  have HC := hd (tree_any (w.heap.size + 1) s W2 HR2.out hs)
  have hg2 : W2.heap.size ≤ w.heap.size + 2 := by omega
  have hg3 : w.heap.size + 2 ≤ W2.heap.size := by omega
  clear hz1 hz2
  subst hW1 hW2
  go_enter Tryd.func13, Tryd.ntmps13
  go_wp2_with fail
  cases hn : nodeW s.data.toList 0 with
  | bad p er =>
    have HF := hd (parse_bad hn)
    have hne := (node_bad (Nat.zero_le _) hn).2
    have hb1 : (er == 0) = false := by simpa using hne
    have hb2 : (er != 0) = true := by simpa using hne
    rw [hn] at HC
    have HC := hd HC.out
    clear hn hne
    refine HC.out.mono ?_
    intro e w3 h3
    obtain ⟨ho3, hr3, rfl⟩ := h3
    have HV3 := hd (HV2.out.off ho3 (by omega))
    have HB3 := hd (HB2.out.trans (ho3.below (by omega) (by omega)))
    have HR3 := hd hr3
    clear ho3 hr3
    go_upto_region 3 with fail
    generalize hW4 : World.alloc w3 _ = w4
    have HV4 := hd (hW4 ▸ HV3.out.below ((Below.refl _ _).alloc (Nat.le_refl _) (.cells #[.bool false, .slice none 0 0, .slice none 0 0, .slice none 0 0] 26)))
    have HB4 := hd (hW4 ▸ HB3.out.alloc HB3.out.size (.cells #[.bool false, .slice none 0 0, .slice none 0 0, .slice none 0 0] 26))
    have HR4 := hd (hW4 ▸ HR3.out.alloc (.cells #[.bool false, .slice none 0 0, .slice none 0 0, .slice none 0 0] 26))
    clear hW4
    go_upto_region 6 with fail
    refine Y_start (S := fun W => W.cell? ⟨w.heap.size + 1, 1, none⟩ = some (.int .i64 p)) (z := fun _ => false) (by kernel_rfl) ?_
    obtain ⟨wd, hwd⟩ : ∃ wd, wd = w4.drew := ⟨_, rfl⟩
    rw [← hwd]
    have HV5 := hd (show V4 w.heap.size (.bool false) (.slice none 0 0) (.slice none 0 0) (.slice none 0 0) wd from hwd ▸ ⟨HV4.out.blk⟩)
    have HB5 := hd (show Below w.heap.size w wd from hwd ▸ HB4.out.drew)
    have HSS := hd (show wd.cell? ⟨w.heap.size + 1, 1, none⟩ = some (.int .i64 p) from hwd ▸ HR4.out.cells.2.1)
    clear hwd
    obtain ⟨x0, x1, x2, x3⟩ := HV5.out.cells
    obtain ⟨f0, f1, f2, f3⟩ := HV5.out.frees
    refine Y_take (i := 0) (n := 6) (.agg #[.bool false, .slice none 0 0, .slice none 0 0, .slice none 0 0]) rfl (by kernel_rfl) (by kernel_rfl) (by kernel_rfl) (by kernel_rfl) (fun _ _ _ h => h) (by rfl) (fun W hW => ?_) HSS.out ?_
    · go_simp
    simp only [Act.put, List.setIfInBounds_toArray]
    refine Y_take (i := 1) (n := 5) (.pointer (some ⟨w.heap.size + 1, 1, none⟩)) rfl (by kernel_rfl) (by kernel_rfl) (by kernel_rfl) (by kernel_rfl) (fun _ _ _ h => h) (by rfl) (fun W hW => ?_) HSS.out ?_
    · go_simp
    simp only [Act.put]
    refine Y_take (i := 2) (n := 4) (.int .i64 p) rfl (by kernel_rfl) (by kernel_rfl) (by kernel_rfl) (by kernel_rfl) (fun _ _ _ h => h) (by rfl) (fun W hW => ?_) HSS.out ?_
    · go_simp
    simp only [Act.put]
    refine Y_take (i := 3) (n := 3) (.int .i64 er) rfl (by kernel_rfl) (by kernel_rfl) (by kernel_rfl) (by kernel_rfl) (fun _ _ _ h => h) (by rfl) (fun W hW => ?_) HSS.out ?_
    · go_simp
    simp only [Act.put]
    have HS4 := hd (show (set4At wd w.heap.size 0 (.bool false) (.slice none 0 0) (.slice none 0 0) (.slice none 0 0)).cell? ⟨w.heap.size + 1, 1, none⟩ = some (.int .i64 p) from (World.cell?_of_block (set4_far (by show w.heap.size + 1 ≠ w.heap.size; omega))).trans HSS.out)
    refine Y_one (i := 4) (n := 2) (by kernel_rfl) rfl (fun K hK => ?_)
    rw [if_pos (by rfl)]
    go_simp
    refine hK _ _ (fun _ => HS4.out) ?_
    clear hK K
    refine Y_one (i := 5) (n := 1) (by kernel_rfl) rfl (fun K hK => ?_)
    rw [if_pos (by rfl)]
    go_simp
    refine hK _ _ (fun _ => HS4.out) ?_
    clear hK K
    refine Y_one (i := 6) (n := 0) (by kernel_rfl) rfl (fun K hK => ?_)
    rw [if_pos (by rfl)]
    go_simp
    refine hK _ _ (fun _ => HS4.out) (Y_done (by kernel_rfl) ?_)
    clear hK K
    go_wp2
    refine bodyPost_ret (v := .tuple #[.agg #[.bool false, .slice none 0 0, .slice none 0 0, .slice none 0 0], .int .i64 p, .int .i64 er]) (by simp [results, Tryd.results13, go_sem, x0, x1, x2, x3]) rfl ?_
    rw [HF.out]
    exact ⟨_, 1, rfl, noT_tree _ _, (((HB5.out.setCell (p := ⟨w.heap.size, 0, none⟩) (Nat.le_refl _) _).setCell (p := ⟨w.heap.size, 1, none⟩) (Nat.le_refl _) _).setCell (p := ⟨w.heap.size, 2, none⟩) (Nat.le_refl _) _).setCell (p := ⟨w.heap.size, 3, none⟩) (Nat.le_refl _) _⟩
  | ok n j =>
    have hjr := node_ok (Nat.zero_le _) hn
    rw [data_size] at hjr
    rw [hn] at HC
    have HC := hd HC.out
    have HN := hd hn
    clear hn
    refine HC.out.mono ?_
    intro e w3 h3
    obtain ⟨ho3, hr3, u, d, rfl, ht3⟩ := h3
    have HV3 := hd (HV2.out.off ho3 (by omega))
    have HB3 := hd (HB2.out.trans (ho3.below (by omega) (by omega)))
    have HR3 := hd hr3
    have HT3 := hd ht3
    obtain ⟨lf, PA, np, pc, TA, nt, tc, KA, nk, kc, rfl⟩ : ∃ lf PA np pc TA nt tc KA nk kc, u = .agg #[.bool lf, .slice PA np pc, .slice TA nt tc, .slice KA nk kc] := by
      cases d with
      | zero => exact ht3.elim
      | succ d => obtain ⟨PA, pc, TA, tc, KA, kc, e, _⟩ := ht3; exact ⟨_, _, _, _, _, _, _, _, _, _, e⟩
    clear ho3 hr3 ht3
    go_upto_region 3 with fail
    generalize hW4 : World.alloc w3 _ = w4
    have HV4 := hd (hW4 ▸ HV3.out.below ((Below.refl _ _).alloc (Nat.le_refl _) (.cells #[.bool lf, .slice PA np pc, .slice TA nt tc, .slice KA nk kc] 26)))
    have HB4 := hd (hW4 ▸ HB3.out.alloc HB3.out.size (.cells #[.bool lf, .slice PA np pc, .slice TA nt tc, .slice KA nk kc] 26))
    have HR4 := hd (hW4 ▸ HR3.out.alloc (.cells #[.bool lf, .slice PA np pc, .slice TA nt tc, .slice KA nk kc] 26))
    have HX4 := hd (hW4 ▸ V4.new w3 (.bool lf) (.slice PA np pc) (.slice TA nt tc) (.slice KA nk kc))
    have HT4 := hd (HT3.out.keep (w' := w4) (fun _ h => h) fun p hp => by
      have := Below.heap_alloc w3 (.cells #[.bool lf, .slice PA np pc, .slice TA nt tc, .slice KA nk kc] 26) p.block hp.2
      rw [hW4] at this
      exact ⟨World.cell?_of_block this, World.frozen?_of_block this⟩)
    have hz4 : w3.heap.size ≤ w4.heap.size := by rw [← hW4]; simp
    have h30 := HV3.out.lt
    clear hW4
    obtain ⟨r0, r1, r2⟩ := HR4.out.cells
    by_cases hj : j < s.size
    · have HF := hd (parse_more HN.out (by rw [data_size]; exact hj))
      have hjj : (j : Int) < (s.size : Int) := by omega
      go_upto_region 6 with fail
      clear r0 r1 r2
      refine Y_start (S := fun W => W.cell? ⟨w.heap.size + 1, 1, none⟩ = some (.int .i64 j)) (z := fun _ => false) (by kernel_rfl) ?_
      obtain ⟨wd, hwd⟩ : ∃ wd, wd = w4.drew := ⟨_, rfl⟩
      rw [← hwd]
      have HV5 := hd (show V4 w.heap.size (.bool false) (.slice none 0 0) (.slice none 0 0) (.slice none 0 0) wd from hwd ▸ ⟨HV4.out.blk⟩)
      have HB5 := hd (show Below w.heap.size w wd from hwd ▸ HB4.out.drew)
      have HSS := hd (show wd.cell? ⟨w.heap.size + 1, 1, none⟩ = some (.int .i64 j) from hwd ▸ HR4.out.cells.2.1)
      clear hwd
      obtain ⟨x0, x1, x2, x3⟩ := HV5.out.cells
      obtain ⟨f0, f1, f2, f3⟩ := HV5.out.frees
      refine Y_take (i := 0) (n := 6) (.agg #[.bool false, .slice none 0 0, .slice none 0 0, .slice none 0 0]) rfl (by kernel_rfl) (by kernel_rfl) (by kernel_rfl) (by kernel_rfl) (fun _ _ _ h => h) (by rfl) (fun W hW => ?_) HSS.out ?_
      · go_simp
      simp only [Act.put, List.setIfInBounds_toArray]
      refine Y_take (i := 1) (n := 5) (.pointer (some ⟨w.heap.size + 1, 1, none⟩)) rfl (by kernel_rfl) (by kernel_rfl) (by kernel_rfl) (by kernel_rfl) (fun _ _ _ h => h) (by rfl) (fun W hW => ?_) HSS.out ?_
      · go_simp
      simp only [Act.put]
      refine Y_take (i := 2) (n := 4) (.int .i64 j) rfl (by kernel_rfl) (by kernel_rfl) (by kernel_rfl) (by kernel_rfl) (fun _ _ _ h => h) (by rfl) (fun W hW => ?_) HSS.out ?_
      · go_simp
      simp only [Act.put]
      refine Y_take (i := 3) (n := 3) (.int .i64 11) rfl (by kernel_rfl) (by kernel_rfl) (by kernel_rfl) (by kernel_rfl) (fun _ _ _ h => h) (by rfl) (fun W hW => ?_) HSS.out ?_
      · go_simp
      simp only [Act.put]
      have HS4 := hd (show (set4At wd w.heap.size 0 (.bool false) (.slice none 0 0) (.slice none 0 0) (.slice none 0 0)).cell? ⟨w.heap.size + 1, 1, none⟩ = some (.int .i64 j) from (World.cell?_of_block (set4_far (by show w.heap.size + 1 ≠ w.heap.size; omega))).trans HSS.out)
      refine Y_one (i := 4) (n := 2) (by kernel_rfl) rfl (fun K hK => ?_)
      rw [if_pos (by rfl)]
      go_simp
      refine hK _ _ (fun _ => HS4.out) ?_
      clear hK K
      refine Y_one (i := 5) (n := 1) (by kernel_rfl) rfl (fun K hK => ?_)
      rw [if_pos (by rfl)]
      go_simp
      refine hK _ _ (fun _ => HS4.out) ?_
      clear hK K
      refine Y_one (i := 6) (n := 0) (by kernel_rfl) rfl (fun K hK => ?_)
      rw [if_pos (by rfl)]
      go_simp
      refine hK _ _ (fun _ => HS4.out) (Y_done (by kernel_rfl) ?_)
      clear hK K
      go_wp2
      refine bodyPost_ret (v := .tuple #[.agg #[.bool false, .slice none 0 0, .slice none 0 0, .slice none 0 0], .int .i64 j, .int .i64 11]) (by simp [results, Tryd.results13, go_sem, x0, x1, x2, x3]) rfl ?_
      rw [HF.out]
      exact ⟨_, 1, rfl, noT_tree _ _, (((HB5.out.setCell (p := ⟨w.heap.size, 0, none⟩) (Nat.le_refl _) _).setCell (p := ⟨w.heap.size, 1, none⟩) (Nat.le_refl _) _).setCell (p := ⟨w.heap.size, 2, none⟩) (Nat.le_refl _) _).setCell (p := ⟨w.heap.size, 3, none⟩) (Nat.le_refl _) _⟩
    · have HF := hd (show parseL s.data.toList = (n, 0, 0) from parse_ok (by have := HN.out; rw [show j = s.data.toList.length by rw [data_size]; omega] at this; exact this))
      have hjj : decide (j < s.size) = false := decide_eq_false hj
      obtain ⟨y0, y1, y2, y3⟩ := HX4.out.cells
      obtain ⟨x0, x1, x2, x3⟩ := HV4.out.cells
      obtain ⟨f0, f1, f2, f3⟩ := HV4.out.frees
      go_wp2
      refine bodyPost_ret (v := .tuple #[.agg #[.bool lf, .slice PA np pc, .slice TA nt tc, .slice KA nk kc], .int .i64 0, .int .i64 0]) (by simp [results, Tryd.results13, go_sem, x0, x1, x2, x3]) rfl ?_
      rw [HF.out]
      refine ⟨_, d, rfl, HT4.out.keep (fun b hb => ⟨by omega, by have := hb.2; simp; omega⟩) (fun p hp => ?_), (((HB4.out.setCell (p := ⟨w.heap.size, 0, none⟩) (Nat.le_refl _) _).setCell (p := ⟨w.heap.size, 1, none⟩) (Nat.le_refl _) _).setCell (p := ⟨w.heap.size, 2, none⟩) (Nat.le_refl _) _).setCell (p := ⟨w.heap.size, 3, none⟩) (Nat.le_refl _) _⟩
      have := ((Off2.refl (w.heap.size + 1) w.heap.size w4).set4 (.bool lf) (.slice PA np pc) (.slice TA nt tc) (.slice KA nk kc)).block p.block (by have := hp.2; omega) (by have := hp.1; omega) (by have := hp.1; omega)
      exact ⟨World.cell?_of_block this, World.frozen?_of_block this⟩

end Go.Proofs.YtknkclbjocfhiaaDoor
