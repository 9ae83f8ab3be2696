/- Do on a labelled tree: a node put in, taken out, moved; -/
import Derived.Test.YtmkciabefepelaaGreatJHTakeW
set_option maxRecDepth 4000
set_option maxHeartbeats 8000000
namespace Go.Proofs.YtmkciabefepelaaGreat
open Go.RowKit
def kQ1 (F : Nat -> Prop) (v : Value) (n : NT) (w : World) (e : Ending) (w' : World) : Prop := ∃ F', e = .returned (.tuple #[]) /\ Gh w' v n F' /\ (∀ q, F' q -> F q ∨ (w.heap.size <= q /\ q < w'.heap.size)) /\ Tch F w w'
theorem kO8 {w : World} {c : NC} {n : NT} {f : Int} (hn : kS w c n) (h0 : 0 <= f) (hs : f + sizeT n <= 500000) : Calls Tryz.prog 23 #[.agg c.row, .int .i64 f] w (kRx f n w) := by
 obtain ⟨d, hn⟩ := hn
 exact kQh d w _ n f hn h0 hs
mutual
theorem kO9 : ∀ (n : NT) (f : Int), sizeT (kQ4 n f) <= 2 * sizeT n
 | .mk _ _ tx ks, f => by
  have := kPa ks (f + 1 + tx.length)
  simp only [kQ4, sizeT, List.length_cons, kN4]
  omega
theorem kPa : ∀ (ks : List NT) (f : Int), sizeK (kPq ks f) <= 2 * sizeK ks
 | [], f => by simp [kPq, sizeK]
 | k :: r, f => by
  have := kO9 k f
  have := kPa r (f + sizeT k)
  simp only [kPq, sizeK]
  omega
end
set_option maxRecDepth 100000 in
theorem kRl {w0 w : World} {v : Value} {g : NT} {F : Nat -> Prop} {o : OC} {a : OpP} (hG : Gh w v g F) (hF : ∀ q, F q -> w0.heap.size <= q /\ q < w.heap.size) (ho : OkA w0 o a) (hw : Below w0.heap.size w0 w) (ta : zAf a) (h1 : (o.k == 1) = false) (h2 : (o.k == 2) = false) (h3 : (o.k == 3) = false) (h4 : (o.k == 4) = false) (h5 : (o.k == 5) = false) (h7 : (o.k == 7) = false) (h8 : (o.k == 8) = false) : Calls Tryz.prog 24 #[v, .agg o.row] w (kQ1 F v g w) := by
 obtain ⟨W1, hW1⟩ : ∃ W, w.alloc (.cells o.row 35) = W := ⟨_, rfl⟩
 have hv : jR W1 w.heap.size o := hW1 ▸ jR.new w o
 have hbw : Below w.heap.size w W1 := hW1 ▸ (Below.refl _ _).alloc (Nat.le_refl _) _
 have hwl := hw.size
 have HV := hd hv
 have HB := hd (hw.trans (hbw.mono hwl))
 have HG := hd (hG.later (fun q h => (hF q h).2) hbw)
 have HF := hd (fun q (h : F q) => (⟨(hF q h).1, (hF q h).2, Nat.lt_of_lt_of_le (hF q h).2 hbw.size⟩ : w0.heap.size <= q /\ q < w.heap.size /\ q < W1.heap.size))
 have HT := hd (Tch.of_below (F := F) hbw)
 have HO := hd ho
 have HTA := hd ta
 have HW := hd hW1
 have hs1 : W1.heap.size = w.heap.size + 1 := by rw [<- hW1]; simp
 clear hG hF ho hw ta hv hbw hW1
 go_enter Tryz.func24, Tryz.ntmps24
 go_upto_region 1 with fail
 rw [HW.out]
 clear HW
 go_wp2_with (first
  | ((with_reducible refine zC (ty := 3) (x := .tmp 17) ?_); refine zE HV.out (j := 0) (v := .int .i64 o.k) _ rfl rfl rfl rfl Tryz.underlying3 rfl ?_)
  | fail)
 go_end0
 exact ⟨F, rfl, HG.out, fun q h => .inl h, HT.out⟩
set_option maxRecDepth 100000 in
theorem kRr {w0 w : World} {v : Value} {g : NT} {F : Nat -> Prop} {o : OC} {a : OpP} {u : List Int} {i : Nat} {x k : NT} (hG : Gh w v g F) (hF : ∀ q, F q -> w0.heap.size <= q /\ q < w.heap.size) (ho : OkA w0 o a) (hw : Below w0.heap.size w0 w) (ta : zAf a) (hk : o.k = 2) (hpq : a.q = u ++ [(i : Int)]) (hx : kB g u = some x) (hi : x.ks[i]? = some k) (hs : x.ks.length <= 500000) : Calls Tryz.prog 24 #[v, .agg o.row] w (kQ1 F v (putT g u (jS x i 1 [])) w) := by
 first | have k1 : (o.k == 1) = true := by simp [hk] | have k1 : (o.k == 1) = false := by simp [hk]
 first | have k2 : (o.k == 2) = true := by simp [hk] | have k2 : (o.k == 2) = false := by simp [hk]
 first | have k3 : (o.k == 3) = true := by simp [hk] | have k3 : (o.k == 3) = false := by simp [hk]
 first | have k4 : (o.k == 4) = true := by simp [hk] | have k4 : (o.k == 4) = false := by simp [hk]
 first | have k5 : (o.k == 5) = true := by simp [hk] | have k5 : (o.k == 5) = false := by simp [hk]
 first | have k7 : (o.k == 7) = true := by simp [hk] | have k7 : (o.k == 7) = false := by simp [hk]
 first | have k8 : (o.k == 8) = true := by simp [hk] | have k8 : (o.k == 8) = false := by simp [hk]
 clear hk
 have HPQ := hd hpq
 have HX := hd hx
 have HI := hd hi
 have HS := hd hs
 clear hpq hx hi hs
 obtain ⟨W1, hW1⟩ : ∃ W, w.alloc (.cells o.row 35) = W := ⟨_, rfl⟩
 have hv : jR W1 w.heap.size o := hW1 ▸ jR.new w o
 have hbw : Below w.heap.size w W1 := hW1 ▸ (Below.refl _ _).alloc (Nat.le_refl _) _
 have hwl := hw.size
 have HV := hd hv
 have HB := hd (hw.trans (hbw.mono hwl))
 have HG := hd (hG.later (fun q h => (hF q h).2) hbw)
 have HF := hd (fun q (h : F q) => (⟨(hF q h).1, (hF q h).2, Nat.lt_of_lt_of_le (hF q h).2 hbw.size⟩ : w0.heap.size <= q /\ q < w.heap.size /\ q < W1.heap.size))
 have HT := hd (Tch.of_below (F := F) hbw)
 have HO := hd ho
 have HTA := hd ta
 have HW := hd hW1
 have hs1 : W1.heap.size = w.heap.size + 1 := by rw [<- hW1]; simp
 clear hG hF ho hw ta hv hbw hW1
 go_enter Tryz.func24, Tryz.ntmps24
 go_upto_region 1 with fail
 rw [HW.out]
 clear HW
 go_wp2_with (first
  | ((with_reducible refine zC (ty := 3) (x := .tmp 17) ?_); refine zE HV.out (j := 0) (v := .int .i64 o.k) _ rfl rfl rfl rfl Tryz.underlying3 rfl ?_)
  | ((with_reducible refine zC (ty := 27) (x := .tmp 37) ?_); refine zE HV.out (j := 1) (v := .slice o.Q o.lq o.cq) _ rfl rfl rfl rfl Tryz.underlying27 rfl ?_)
  | (go_at_call 66; refine Calls.mono (kO4 HG.out (fun q h => (HF.out q h).2.2) (by rw [<- HPQ.out]; exact (HO.out.later HB.out).hasq HTA.out) HX.out HI.out HS.out) ?_; rintro e w2 ⟨p, Fk, F2, rfl, h1, h2, h3, h4, h5⟩; have hs2 := h5.size; have HPK := hd h1; have HG2 := hd h2; have HDJ := hd h3; have HCV := hd h4; have HT2 := hd h5; have HB2 := hd (HB.out.trans (h5.below (by omega) (fun q _ h => (HF.out q h).1))); have HV2 := hd (show jR w2 w.heap.size o from (h5.block _ HV.out.lt (fun e => by have := (HF.out _ e).2.1; omega)).trans HV.out); clear h1 h2 h3 h4 h5)
  | fail)
 go_end0
 refine ⟨F2, rfl, HG2.out, fun q h => ?_, HT.out.trans HT2.out fun q _ h => h⟩
 rcases HCV.out q (.inr h) with h | h
 ·exact .inl h
 ·exact .inr (by omega)
set_option maxRecDepth 100000 in
theorem kRs {w0 w : World} {v : Value} {g : NT} {F : Nat -> Prop} {o : OC} {a : OpP} {u t : List Int} {i j : Nat} {x y k : NT} (hG : Gh w v g F) (hF : ∀ q, F q -> w0.heap.size <= q /\ q < w.heap.size) (ho : OkA w0 o a) (hw : Below w0.heap.size w0 w) (ta : zAf a) (hk : o.k = 5) (hpq : a.q = u ++ [(i : Int)]) (hx : kB g u = some x) (hi : x.ks[i]? = some k) (hs : x.ks.length <= 500000) (hpt : a.t = t ++ [(j : Int)]) (hy : kB (putT g u (jS x i 1 [])) t = some y) (hj : j <= y.ks.length) (hsy : y.ks.length <= 500000) : Calls Tryz.prog 24 #[v, .agg o.row] w (kQ1 F v (putT (putT g u (jS x i 1 [])) t (jS y j 0 [k])) w) := by
 first | have k1 : (o.k == 1) = true := by simp [hk] | have k1 : (o.k == 1) = false := by simp [hk]
 first | have k2 : (o.k == 2) = true := by simp [hk] | have k2 : (o.k == 2) = false := by simp [hk]
 first | have k3 : (o.k == 3) = true := by simp [hk] | have k3 : (o.k == 3) = false := by simp [hk]
 first | have k4 : (o.k == 4) = true := by simp [hk] | have k4 : (o.k == 4) = false := by simp [hk]
 first | have k5 : (o.k == 5) = true := by simp [hk] | have k5 : (o.k == 5) = false := by simp [hk]
 first | have k7 : (o.k == 7) = true := by simp [hk] | have k7 : (o.k == 7) = false := by simp [hk]
 first | have k8 : (o.k == 8) = true := by simp [hk] | have k8 : (o.k == 8) = false := by simp [hk]
 clear hk
 have HPQ := hd hpq
 have HX := hd hx
 have HI := hd hi
 have HS := hd hs
 have HPT := hd hpt
 have HY := hd hy
 have HJ := hd hj
 have HSY := hd hsy
 clear hpq hx hi hs hpt hy hj hsy
 obtain ⟨W1, hW1⟩ : ∃ W, w.alloc (.cells o.row 35) = W := ⟨_, rfl⟩
 have hv : jR W1 w.heap.size o := hW1 ▸ jR.new w o
 have hbw : Below w.heap.size w W1 := hW1 ▸ (Below.refl _ _).alloc (Nat.le_refl _) _
 have hwl := hw.size
 have HV := hd hv
 have HB := hd (hw.trans (hbw.mono hwl))
 have HG := hd (hG.later (fun q h => (hF q h).2) hbw)
 have HF := hd (fun q (h : F q) => (⟨(hF q h).1, (hF q h).2, Nat.lt_of_lt_of_le (hF q h).2 hbw.size⟩ : w0.heap.size <= q /\ q < w.heap.size /\ q < W1.heap.size))
 have HT := hd (Tch.of_below (F := F) hbw)
 have HO := hd ho
 have HTA := hd ta
 have HW := hd hW1
 have hs1 : W1.heap.size = w.heap.size + 1 := by rw [<- hW1]; simp
 clear hG hF ho hw ta hv hbw hW1
 go_enter Tryz.func24, Tryz.ntmps24
 go_upto_region 1 with fail
 rw [HW.out]
 clear HW
 go_wp2_with (first
  | ((with_reducible refine zC (ty := 3) (x := .tmp 17) ?_); refine zE HV.out (j := 0) (v := .int .i64 o.k) _ rfl rfl rfl rfl Tryz.underlying3 rfl ?_)
  | ((with_reducible refine zC (ty := 27) (x := .tmp 178) ?_); refine zE HV.out (j := 1) (v := .slice o.Q o.lq o.cq) _ rfl rfl rfl rfl Tryz.underlying27 rfl ?_)
  | ((with_reducible refine zC (ty := 27) (x := .tmp 178) ?_); refine zE HV.out (j := 1) (v := .slice o.Q o.lq o.cq) _ rfl rfl rfl rfl Tryz.underlying27 rfl ?_)
  | (go_at_call 66; refine Calls.mono (kO4 HG.out (fun q h => (HF.out q h).2.2) (by rw [<- HPQ.out]; exact (HO.out.later HB.out).hasq HTA.out) HX.out HI.out HS.out) ?_; rintro e w2 ⟨p, Fk, F2, rfl, h1, h2, h3, h4, h5⟩; have hs2 := h5.size; have HPK := hd h1; have HG2 := hd h2; have HDJ := hd h3; have HCV := hd h4; have HT2 := hd h5; have HB2 := hd (HB.out.trans (h5.below (by omega) (fun q _ h => (HF.out q h).1))); have HV2 := hd (show jR w2 w.heap.size o from (h5.block _ HV.out.lt (fun e => by have := (HF.out _ e).2.1; omega)).trans HV.out); clear h1 h2 h3 h4 h5)
  | ((with_reducible refine zC (ty := 27) (x := .tmp 182) ?_); refine zE HV2.out (j := 2) (v := .slice o.T o.lt o.ct) _ rfl rfl rfl rfl Tryz.underlying27 rfl ?_)
  | (go_at_call 65; refine Calls.mono (kQu HG2.out (fun q h => by have := HCV.out q (.inr h); rcases this with h | h; (have := (HF.out q h).2.2; omega); exact h.2) HPK.out (fun q h => ⟨by have := HCV.out q (.inl h); rcases this with h | h; (have := (HF.out q h).2.2; omega); exact h.2, HDJ.out q h⟩) (by rw [<- HPT.out]; exact (HO.out.later HB2.out).hast HTA.out) HY.out HJ.out HSY.out) ?_; rintro e w3 ⟨F3, rfl, h1, h2, h3⟩; have hs3 := h3.size; have HG3 := hd h1; have HC3 := hd h2; have HT3 := hd h3; clear h1 h2 h3)
  | fail)
 go_end0
 refine ⟨F3, rfl, HG3.out, fun q h => ?_, (HT.out.trans HT2.out fun q _ h => h).trans HT3.out fun q hq h => ?_⟩
 ·rcases HC3.out q h with h | h | h
  ·rcases HCV.out q (.inr h) with h | h
   ·exact .inl h
   ·exact .inr (by omega)
  ·rcases HCV.out q (.inl h) with h | h
   ·exact .inl h
   ·exact .inr (by omega)
  ·exact .inr (by omega)
 ·rcases HCV.out q (.inr h) with h | h
  ·exact h
  ·omega
set_option maxRecDepth 100000 in
theorem kRt {w0 w : World} {v : Value} {g : NT} {F : Nat -> Prop} {o : OC} {a : OpP} {u : List Int} {i : Nat} {x : NT} (hG : Gh w v g F) (hF : ∀ q, F q -> w0.heap.size <= q /\ q < w.heap.size) (ho : OkA w0 o a) (hw : Below w0.heap.size w0 w) (ta : zAf a) (hk : o.k = 1) (hpq : a.q = u ++ [(i : Int)]) (hx : kB g u = some x) (hi : i <= x.ks.length) (hs : x.ks.length <= 500000) (hsn : sizeT a.n <= 200000) : Calls Tryz.prog 24 #[v, .agg o.row] w (kQ1 F v (putT g u (jS x i 0 [fgT (kQ4 a.n 0)])) w) := by
 first | have k1 : (o.k == 1) = true := by simp [hk] | have k1 : (o.k == 1) = false := by simp [hk]
 first | have k2 : (o.k == 2) = true := by simp [hk] | have k2 : (o.k == 2) = false := by simp [hk]
 first | have k3 : (o.k == 3) = true := by simp [hk] | have k3 : (o.k == 3) = false := by simp [hk]
 first | have k4 : (o.k == 4) = true := by simp [hk] | have k4 : (o.k == 4) = false := by simp [hk]
 first | have k5 : (o.k == 5) = true := by simp [hk] | have k5 : (o.k == 5) = false := by simp [hk]
 first | have k7 : (o.k == 7) = true := by simp [hk] | have k7 : (o.k == 7) = false := by simp [hk]
 first | have k8 : (o.k == 8) = true := by simp [hk] | have k8 : (o.k == 8) = false := by simp [hk]
 clear hk
 have HPQ := hd hpq
 have HX := hd hx
 have HI := hd hi
 have HS := hd hs
 have HSN := hd hsn
 clear hpq hx hi hs hsn
 obtain ⟨W1, hW1⟩ : ∃ W, w.alloc (.cells o.row 35) = W := ⟨_, rfl⟩
 have hv : jR W1 w.heap.size o := hW1 ▸ jR.new w o
 have hbw : Below w.heap.size w W1 := hW1 ▸ (Below.refl _ _).alloc (Nat.le_refl _) _
 have hwl := hw.size
 have HV := hd hv
 have HB := hd (hw.trans (hbw.mono hwl))
 have HG := hd (hG.later (fun q h => (hF q h).2) hbw)
 have HF := hd (fun q (h : F q) => (⟨(hF q h).1, (hF q h).2, Nat.lt_of_lt_of_le (hF q h).2 hbw.size⟩ : w0.heap.size <= q /\ q < w.heap.size /\ q < W1.heap.size))
 have HT := hd (Tch.of_below (F := F) hbw)
 have HO := hd ho
 have HTA := hd ta
 have HW := hd hW1
 have hs1 : W1.heap.size = w.heap.size + 1 := by rw [<- hW1]; simp
 clear hG hF ho hw ta hv hbw hW1
 go_enter Tryz.func24, Tryz.ntmps24
 go_upto_region 1 with fail
 rw [HW.out]
 clear HW
 go_wp2_with (first
  | ((with_reducible refine zC (ty := 3) (x := .tmp 17) ?_); refine zE HV.out (j := 0) (v := .int .i64 o.k) _ rfl rfl rfl rfl Tryz.underlying3 rfl ?_)
  | ((with_reducible refine zC (ty := 26) (x := .tmp 22) ?_); refine kR HV.out (j := 4) (vs := [.bool o.lf, .slice o.P o.np o.pc, .slice o.X o.nt o.tc, .slice o.K o.nk o.kc]) zCp _ rfl rfl rfl (by kernel_rfl) ?_)
  | (go_at_call 23; refine Calls.mono (kO8 (c := o.nc) (HO.out.later HB.out).hasn (Int.le_refl 0) (by have := HSN.out; omega)) ?_; rintro e w2 ⟨p, rfl, h1, h2⟩; have hs2 := h2.size; have HP := hd h1; have HB2 := hd (zI HB.out h2); have HV2 := hd (show jR w2 w.heap.size o from (h2.block _ HV.out.lt).trans HV.out); have HT2 := hd (HT.out.trans (Tch.of_below (F := F) h2) (fun q _ h => h)); have HG2 := hd (HG.out.later (fun q h => (HF.out q h).2.2) h2); clear h1 h2)
  | (go_at_call 64; refine Calls.mono (kPv _ _ _ _ _ (Nat.le_refl _) HP.out (fun q h => h.2) (by have := HSN.out; have := kO9 a.n 0; omega)) ?_; rintro e w3 ⟨rfl, h1, h2⟩; have hs3 := h2.size; have HP3 := hd h1; have HB3 := hd (HB2.out.trans (h2.below (by omega) (fun q _ h => by have := h.1; omega))); have HV3 := hd (show jR w3 w.heap.size o from (h2.block _ HV2.out.lt (fun e => by have := e.1; omega)).trans HV2.out); have HT3 := hd (HT2.out.trans h2 (fun q hq h => by have := h.1; omega)); have HG3 := hd (HG2.out.frame (fun q h => h2.block q (by have := (HF.out q h).2.2; omega) (fun e => by have := (HF.out q h).2.2; have := e.1; omega))); clear h1 h2)
  | ((with_reducible refine zC (ty := 27) (x := .tmp 30) ?_); refine zE HV3.out (j := 1) (v := .slice o.Q o.lq o.cq) _ rfl rfl rfl rfl Tryz.underlying27 rfl ?_)
  | (go_at_call 65; refine Calls.mono (kQu HG3.out (fun q h => by have := (HF.out q h).2.2; omega) HP3.out (fun q h => ⟨by have := h.2; omega, fun e => by have := (HF.out q e).2.2; have := h.1; omega⟩) (by rw [<- HPQ.out]; exact (HO.out.later HB3.out).hasq HTA.out) HX.out HI.out HS.out) ?_; rintro e w4 ⟨F4, rfl, h1, h2, h3⟩; have hs4 := h3.size; have HG4 := hd h1; have HC4 := hd h2; have HT4 := hd h3; clear h1 h2 h3)
  | fail)
 go_end0
 refine ⟨F4, rfl, HG4.out, fun q h => ?_, HT3.out.trans HT4.out fun q _ h => h⟩
 rcases HC4.out q h with h | h | h
 ·exact .inl h
 ·exact .inr (by have := h.1; have := h.2; omega)
 ·exact .inr (by omega)
end Go.Proofs.YtmkciabefepelaaGreat
