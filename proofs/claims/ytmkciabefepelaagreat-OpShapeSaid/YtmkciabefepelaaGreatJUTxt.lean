/- retype. -/
import Derived.Test.YtmkciabefepelaaGreatJGCat
import Derived.Test.YtmkciabefepelaaGreatJOKit
set_option maxRecDepth 100000
set_option maxHeartbeats 8000000
namespace Go.Proofs.YtmkciabefepelaaGreat
open Go.RowKit
theorem zAi {P Q : Prop} (k : Q) (h : Q -> P := by
 intro kk
 simp only [Act.put, List.getElem_toArray, List.getElem_cons_succ, List.getElem_cons_zero, List.setIfInBounds_toArray, List.set_cons_succ, List.set_cons_zero]
 exact kk) : P := h k
theorem kO7 {P : Prop} (h : P := by
 have HLF := hd hlf
 try have HSZ := hd hsz
 try have HR := hd hr
 have HN := hd hn
 have HO := hd ho
 have HTA := hd ta
 have HMN := hd hm
 clear hn ho ta hm hlf
 try clear hsz
 try clear hr
 obtain ⟨W0, hW, hst⟩ := jM w c o m
 have HW := hd hW
 have HM := hd hst
 clear hW hst
 go_enter Tryz.func86, Tryz.ntmps86
 go_upto_region 1 with fail
 rw [HW.out]
 clear HW
 go_wp2_with (first
  | ((with_reducible refine zC (ty := 4) (x := .tmp 11) ?_); refine zM HM.out.v5 (j := 0) (v := .bool false) _ rfl rfl rfl (by simp only [NC.row, HLF.out]; rfl) Tryz.underlying4 rfl ?_)
  | ((with_reducible refine zC (ty := 4) (x := .tmp 11) ?_); refine zM HM.out.v5 (j := 0) (v := .bool true) _ rfl rfl rfl (by simp only [NC.row, HLF.out]; rfl) Tryz.underlying4 rfl ?_)
  | ((with_reducible refine zC (ty := 3) (x := .tmp 15) ?_); refine zE HM.out.v4 (j := 0) (v := .int .i64 o.k) _ rfl rfl rfl rfl Tryz.underlying3 rfl ?_)
  | ((with_reducible refine zC (ty := 3) (x := .tmp 22) ?_); refine zE HM.out.v4 (j := 3) (v := .int .i64 o.z) _ rfl rfl rfl rfl Tryz.underlying3 rfl ?_)
  | ((with_reducible refine zC (ty := 23) (x := .tmp 20) ?_); refine zM HM.out.v5 (j := 2) (v := .slice m.X m.nt m.tc) _ rfl rfl rfl rfl Tryz.underlying23 rfl ?_)
  | ((with_reducible refine zC (ty := 23) (x := .tmp 24) ?_); refine zE HM.out.v4 (j := 10) (v := .slice o.S o.nx o.cx) _ rfl rfl rfl rfl Tryz.underlying23 rfl ?_)
  | (go_at_call 136; refine Calls.mono (kE6 (HMN.out.later HM.out.below) (HO.out.later HM.out.below) HTA.out HSZ.out HR.out) ?_; rintro e w1 ⟨A1, c1, rfl, hc1, hs1, b9⟩; have hl1 := HM.out.v5.lt; have HS := hd hs1; have HC1 := hd hc1; have HM := hd (HM.out.call b9); clear b9 hc1 hs1; dsimp only)
  | (go_at_call 135; refine Calls.mono (kE5 (HMN.out.later HM.out.below) (HO.out.later HM.out.below) HTA.out HSZ.out HR.out) ?_; rintro e w1 ⟨A1, c1, rfl, hc1, hs1, b9⟩; have hl1 := HM.out.v5.lt; have HS := hd hs1; have HC1 := hd hc1; have HM := hd (HM.out.call b9); clear b9 hc1 hs1; dsimp only)
  | ((with_reducible refine zF (ty := 26) (x := .tmp 6) ?_); refine zA zD (r0 := NC.nil.row) (r := NC.nil.row) HM.out.v6 rfl rfl NC.nil.one _ _ rfl rfl rfl rfl rfl ?_; intro W7 hv ho; have HM := hd (HM.out.set6 (a' := NC.nil) hv ho); clear hv ho)
  | fail)
 exact bodyPost_ret (kU Tryz.results86 _ _ HM.out.v6 rfl) rfl ⟨NC.nil, rfl, fun _ _ => zAb _, HM.out.below⟩) : P := h
set_option maxRecDepth 100000 in
theorem kA4 {w : World} {c : NC} {o : OC} {m : NC} {n mt : NT} {a : OpP} (hn : kS w c n) (ho : OkA w o a) (ta : zAf a) (hm : kS w m mt) (hlf : m.lf = false) : Calls Tryz.prog 86 #[.agg c.row, .agg o.row, .agg m.row] w (zAm w (zeroT, 7)) := by
 exact kO7
set_option maxRecDepth 100000 in
theorem zPv {w : World} {c : NC} {o : OC} {m : NC} {n mt : NT} {a : OpP} {L : List Int} {E : Int} (hn : kS w c n) (ho : OkA w o a) (ta : zAf a) (hm : kS w m mt) (hlf : m.lf = true) (k8 : (o.k == 8) = false) (hsz : sizeT mt <= 900) (hr : zFx mt.tx a.z a.x = (L, E)) (hne : (E != 0) = true) : Calls Tryz.prog 86 #[.agg c.row, .agg o.row, .agg m.row] w (zAm w (zeroT, E)) := by
 exact kO7
theorem kQd {P : Prop} (h : P := by
 have HLF := hd hlf
 have HSZ := hd hsz
 have HR := hd hr
 have HLN := hd hln
 have HPUT := hd hput
 have HN := hd hn
 have HO := hd ho
 have HTA := hd ta
 have HMN := hd hm
 clear hn ho ta hm hlf hsz hr hln hput
 obtain ⟨W0, hW, hst⟩ := jM w c o m
 have HW := hd hW
 have HM := hd hst
 clear hW hst
 go_enter Tryz.func86, Tryz.ntmps86
 go_upto_region 1 with fail
 rw [HW.out]
 clear HW
 go_upto_region 9 with (first
  | ((with_reducible refine zC (ty := 4) (x := .tmp 11) ?_); refine zM HM.out.v5 (j := 0) (v := .bool true) _ rfl rfl rfl (by simp only [NC.row, HLF.out]; rfl) Tryz.underlying4 rfl ?_)
  | ((with_reducible refine zC (ty := 3) (x := .tmp 15) ?_); refine zE HM.out.v4 (j := 0) (v := .int .i64 o.k) _ rfl rfl rfl rfl Tryz.underlying3 rfl ?_)
  | ((with_reducible refine zC (ty := 3) (x := .tmp 22) ?_); refine zE HM.out.v4 (j := 3) (v := .int .i64 o.z) _ rfl rfl rfl rfl Tryz.underlying3 rfl ?_)
  | ((with_reducible refine zC (ty := 23) (x := .tmp 20) ?_); refine zM HM.out.v5 (j := 2) (v := .slice m.X m.nt m.tc) _ rfl rfl rfl rfl Tryz.underlying23 rfl ?_)
  | ((with_reducible refine zC (ty := 23) (x := .tmp 24) ?_); refine zE HM.out.v4 (j := 10) (v := .slice o.S o.nx o.cx) _ rfl rfl rfl rfl Tryz.underlying23 rfl ?_)
  | (go_at_call 136; refine Calls.mono (kE6 (HMN.out.later HM.out.below) (HO.out.later HM.out.below) HTA.out HSZ.out HR.out) ?_; rintro e w1 ⟨A1, c1, rfl, hc1, hs1, b9⟩; have hl1 := HM.out.v5.lt; have HS := hd hs1; have HC1 := hd hc1; have HM := hd (HM.out.call b9); clear b9 hc1 hs1; dsimp only)
  | (go_at_call 135; refine Calls.mono (kE5 (HMN.out.later HM.out.below) (HO.out.later HM.out.below) HTA.out HSZ.out HR.out) ?_; rintro e w1 ⟨A1, c1, rfl, hc1, hs1, b9⟩; have hl1 := HM.out.v5.lt; have HS := hd hs1; have HC1 := hd hc1; have HM := hd (HM.out.call b9); clear b9 hc1 hs1; dsimp only)
  | fail)
 go_wp2_with (first
  | ((with_reducible refine zF (ty := 23) (x := .tmp 34) ?_); refine zFd zFu (r' := ({ m with X := A1, nt := L.length, tc := c1 } : NC).row) HM.out.v5 _ _ rfl rfl rfl 2 (.slice A1 L.length c1) rfl rfl rfl rfl (by rw [NC.size]; decide) (by kernel_rfl) ?_; intro W4 hv ho; have HM := hd (HM.out.set5 (a' := { m with X := A1, nt := L.length, tc := c1 }) hv ho); have HMM := hd (kS.setX (HMN.out.later HM.out.below) (HS.out.off ho (by omega)).now HLN.out HC1.out); clear hv ho)
  | ((with_reducible refine zC (ty := 26) (x := .tmp 3) ?_); refine zB zD HM.out.v3 rfl _ rfl rfl rfl ?_)
  | ((with_reducible refine zC (ty := 26) (x := .tmp 5) ?_); refine zB zD HM.out.v5 rfl _ rfl rfl rfl ?_)
  | ((with_reducible refine zC (ty := 27) (x := .tmp 36) ?_); refine zE HM.out.v4 (j := 1) (v := .slice o.Q o.lq o.cq) _ rfl rfl rfl rfl Tryz.underlying27 rfl ?_)
  | (go_at_call 128; refine Calls.mono (zJ1 (HN.out.later HM.out.below) HMM.out (zKt.later (HO.out.hasq HTA.out) HM.out.below) HPUT.out) ?_; rintro e wF ⟨cf, rfl, hx, b9⟩; have hlo := HM.out.v6.lt; have hsz := HM.out.below.size; have HX := hd hx; have HM := hd (HM.out.call b9); clear b9 hx; dsimp only)
  | ((with_reducible refine zF (ty := 26) (x := .tmp 6) ?_); refine zA zD (r0 := NC.nil.row) (r := cf.row) HM.out.v6 rfl rfl cf.one _ _ rfl rfl rfl rfl rfl ?_; intro WF hv ho; have HM := hd (HM.out.set6 (a' := cf) hv ho); have HX := hd (HX.out.off ho (by omega)); clear hv ho)
  | fail)
 exact bodyPost_ret (kU Tryz.results86 _ _ HM.out.v6 rfl) rfl ⟨cf, rfl, HX.out.more (by omega), HM.out.below⟩) : P := h
set_option maxRecDepth 100000 in
theorem zNl {w : World} {c : NC} {o : OC} {m : NC} {n mt : NT} {a : OpP} {L : List Int} {x : NT} {er : Int} (hn : kS w c n) (ho : OkA w o a) (ta : zAf a) (hm : kS w m mt) (hlf : m.lf = true) (k8 : (o.k == 8) = false) (hsz : sizeT mt <= 900) (hr : zFx mt.tx a.z a.x = (L, 0)) (hln : L.length <= 35184372088832) (hput : zSe n a.q (zCz mt L) = (x, er)) : Calls Tryz.prog 86 #[.agg c.row, .agg o.row, .agg m.row] w (zAm w (x, er)) := by
 exact kQd
set_option maxRecDepth 100000 in
theorem zPw {w : World} {c : NC} {o : OC} {m : NC} {n mt : NT} {a : OpP} {L : List Int} {E : Int} (hn : kS w c n) (ho : OkA w o a) (ta : zAf a) (hm : kS w m mt) (hlf : m.lf = true) (k8 : (o.k == 8) = true) (hsz : sizeT mt <= 900) (hr : zFe mt.tx a.z a.x = (L, E)) (hne : (E != 0) = true) : Calls Tryz.prog 86 #[.agg c.row, .agg o.row, .agg m.row] w (zAm w (zeroT, E)) := by
 exact kO7
set_option maxRecDepth 100000 in
theorem zNm {w : World} {c : NC} {o : OC} {m : NC} {n mt : NT} {a : OpP} {L : List Int} {x : NT} {er : Int} (hn : kS w c n) (ho : OkA w o a) (ta : zAf a) (hm : kS w m mt) (hlf : m.lf = true) (k8 : (o.k == 8) = true) (hsz : sizeT mt <= 900) (hr : zFe mt.tx a.z a.x = (L, 0)) (hln : L.length <= 35184372088832) (hput : zSe n a.q (zCz mt L) = (x, er)) : Calls Tryz.prog 86 #[.agg c.row, .agg o.row, .agg m.row] w (zAm w (x, er)) := by
 exact kQd
def zXd (n : NT) : Int := if n.lf = true then n.tx.length else n.ks.length
set_option maxRecDepth 100000 in
theorem zDu {w : World} {c : NC} {n : NT} {E : Int} (h : kS w c n) (hE : zXd n = E) : Calls Tryz.prog 127 #[.agg c.row] w (jA (.int .i64 E) w) := by
 have hp := h.parts
 obtain ⟨lf, P, np, pc, X, nt, tc, K, nk, kc⟩ := c
 have e1 : n.lf = lf := hp.lf
 have e2 : n.tx.length = nt := hp.nt
 have e3 : n.ks.length = nk := hp.nk
 have hf := hp.f
 have l1 : nt <= 35184372088832 := by have := hf.2.2.1; omega
 have l2 : nk <= 1759218604441 := by have := hf.2.2.2.1; omega
 have HV := hd (jT.new w 26 (NC.row ⟨lf, P, np, pc, X, nt, tc, K, nk, kc⟩))
 have HB := hd (zQ w (.cells (NC.row ⟨lf, P, np, pc, X, nt, tc, K, nk, kc⟩) 26))
 unfold zXd at hE
 rw [e1, e2, e3] at hE
 clear h hp hf e1 e2 e3
 cases lf
 ·obtain rfl : (nk : Int) = E := by simpa using hE
  clear hE
  go_enter Tryz.func127, Tryz.ntmps127
  go_wp2_with (first
   | ((with_reducible refine zC (ty := 4) (x := .tmp 3) ?_); refine zM HV.out (j := 0) (v := .bool false) _ rfl rfl rfl rfl Tryz.underlying4 rfl ?_)
   | ((with_reducible refine zC (ty := 24) (x := .tmp 8) ?_); refine zM HV.out (j := 3) (v := .slice K nk kc) _ rfl rfl rfl rfl Tryz.underlying24 rfl ?_))
  go_ret
  exact ⟨rfl, HB.out⟩
 ·obtain rfl : (nt : Int) = E := by simpa using hE
  clear hE
  go_enter Tryz.func127, Tryz.ntmps127
  go_wp2_with (first
   | ((with_reducible refine zC (ty := 4) (x := .tmp 3) ?_); refine zM HV.out (j := 0) (v := .bool true) _ rfl rfl rfl rfl Tryz.underlying4 rfl ?_)
   | ((with_reducible refine zC (ty := 23) (x := .tmp 5) ?_); refine zM HV.out (j := 2) (v := .slice X nt tc) _ rfl rfl rfl rfl Tryz.underlying23 rfl ?_))
  go_ret
  exact ⟨rfl, HB.out⟩
theorem kId {w : World} {B : Nat} {A : Option Addr} {xs : List Value} (h : VL w B A xs) (k : Nat) : VL w B A (xs.take k) := fun hn => by
 obtain ⟨b, o, e, hb, hc⟩ := h (fun e => hn (by rw [e]; simp))
 refine ⟨b, o, e, hb, fun j u hj => hc j u ?_⟩
 rw [List.getElem?_take] at hj
 split at hj
 ·exact hj
 ·cases hj
theorem kA5 {d : Nat} {w : World} {B : Nat} {A : Option Addr} {ks : List NT} (h : zKn d w B A ks) (k : Nat) : zKn d w B A (ks.take k) := fun j m hj => h j m (by
 rw [List.getElem?_take] at hj
 split at hj
 ·exact hj
 ·cases hj)
section
variable {w : World} {m : NC} {o : OC} {mt : NT} {a : OpP}
theorem zR6 {k : Nat} (h : kS w m mt) (hl : mt.lf = true) (hk : k <= m.nt) : kS w { m with nt := k } (jN mt k) := by
 have hp := h.parts
 have hf := hp.f
 have e := hp.nt
 obtain ⟨d, hK⟩ := hp.k
 unfold jN
 rw [if_pos hl]
 have ek : (mt.tx.take k).length = k := by rw [List.length_take]; omega
 exact zHz.has ⟨hp.lf, hp.np, ek, hp.nk, hp.p, by show VL _ _ _ (rv (mt.tx.take k)); rw [zOr]; exact kId hp.x k, ⟨hf.1, hf.2.1, by show (mt.tx.take k).length <= _; have := hf.2.2.1; omega, hf.2.2.2.1, hf.2.2.2.2.1, by show (mt.tx.take k).length <= m.tc; have := hf.2.2.2.2.2.1; omega, hf.2.2.2.2.2.2⟩, d, hK⟩
theorem kA6 {k : Nat} (h : kS w m mt) (hl : mt.lf = false) (hk : k <= m.nk) : kS w { m with nk := k } (jN mt k) := by
 have hp := h.parts
 have hf := hp.f
 have e := hp.nk
 obtain ⟨d, hK⟩ := hp.k
 unfold jN
 rw [if_neg (by rw [hl]; decide)]
 have ek : (mt.ks.take k).length = k := by rw [List.length_take]; omega
 exact zHz.has ⟨hp.lf, hp.np, hp.nt, ek, hp.p, hp.x, ⟨hf.1, hf.2.1, hf.2.2.1, by show (mt.ks.take k).length <= _; have := hf.2.2.2.1; omega, hf.2.2.2.2.1, hf.2.2.2.2.2.1, by show (mt.ks.take k).length <= m.kc; have := hf.2.2.2.2.2.2; omega⟩, d, kA5 hK k⟩
theorem zR7 {k : Nat} {D : Option Addr} (h : kS w m mt) (ho : OkA w o a) (hl : mt.lf = true) (hk : k <= m.nt) (hD : ∀ (w : World) (B : Nat) (xs : List Value), VL w B m.X xs -> xs.length = m.nt -> VL w B D (xs.drop k)) : kS w ⟨m.lf, o.W, o.nw, o.cw, D, m.nt - k, m.tc - k, none, 0, 0⟩ (zA2 mt k a.w) := by
 have hp := h.parts
 have hf := hp.f
 have e := hp.nt
 unfold zA2
 rw [if_pos hl]
 have ek : (mt.tx.drop k).length = m.nt - k := by rw [List.length_drop]; omega
 exact zHz.has ⟨hp.lf, ho.hnw, ek, rfl, ho.hw, by show VL _ _ _ (rv (mt.tx.drop k)); rw [zOs]; exact hD _ _ _ hp.x (by rw [zCg]; exact e), ⟨ho.hww, by show a.w.length <= _; have := ho.hmw; have := ho.hnw; omega, by show (mt.tx.drop k).length <= _; have := hf.2.2.1; omega, Nat.zero_le _, by show a.w.length <= o.cw; have := ho.hcw; have := ho.hnw; omega, by show (mt.tx.drop k).length <= m.tc - k; have := hf.2.2.2.2.2.1; omega, Nat.le_refl _⟩, 0, fun k m h => by cases h⟩
theorem kA7 {k : Nat} {D : Option Addr} (h : kS w m mt) (ho : OkA w o a) (hl : mt.lf = false) (hk : k <= m.nk) (hD : ∀ (d : Nat) (w : World) (B : Nat) (ks : List NT), zKn d w B m.K ks -> ks.length = m.nk -> zKn d w B D (ks.drop k)) : kS w ⟨m.lf, o.W, o.nw, o.cw, none, 0, 0, D, m.nk - k, m.kc - k⟩ (zA2 mt k a.w) := by
 have hp := h.parts
 have hf := hp.f
 have e := hp.nk
 obtain ⟨d, hK⟩ := hp.k
 unfold zA2
 rw [if_neg (by rw [hl]; decide)]
 have ek : (mt.ks.drop k).length = m.nk - k := by rw [List.length_drop]; omega
 exact zHz.has ⟨hp.lf, ho.hnw, rfl, ek, ho.hw, VL.nil _ _ _, ⟨ho.hww, by show a.w.length <= _; have := ho.hmw; have := ho.hnw; omega, Nat.zero_le _, by show (mt.ks.drop k).length <= _; have := hf.2.2.2.1; omega, by show a.w.length <= o.cw; have := ho.hcw; have := ho.hnw; omega, Nat.le_refl _, by show (mt.ks.drop k).length <= m.kc - k; have := hf.2.2.2.2.2.2; omega⟩, d, hD _ _ _ _ hK e⟩
end
theorem kQe {P : Prop} (h : P := by
 refine kJ (i := 9) (n := 0) (by kernel_rfl) rfl (fun K hK => ?_)
 rw [if_pos (by kernel_rfl)]
 go_simp
 refine hK _ _ (fun _ => HSS.out) (zAl (by kernel_rfl) ?_)
 clear hK K HSS
 go_wp2_with (first
  | ((with_reducible refine zF (ty := 26) (x := .tmp 6) ?_); refine zA zD (r0 := NC.nil.row) (r := NC.nil.row) HM.out.v6 rfl rfl NC.nil.one _ _ rfl rfl rfl rfl rfl ?_; intro W7 hv ho; have HM := hd (HM.out.set6 (a' := NC.nil) hv ho); clear hv ho))
 exact bodyPost_ret (kU Tryz.results82 _ _ HM.out.v6 rfl) rfl ⟨NC.nil, rfl, fun _ _ => zAb _, HM.out.below⟩) : P := h
set_option maxRecDepth 100000 in
theorem kA8 {w : World} {c : NC} {o : OC} {m : NC} {n mt : NT} {a : OpP} (hn : kS w c n) (ho : OkA w o a) (ta : zAf a) (hm : kS w m mt) (hz : decide (o.z < 0) = true) : Calls Tryz.prog 82 #[.agg c.row, .agg o.row, .agg m.row] w (zAm w (zeroT, 8)) := by
 have HN := hd hn
 have HO := hd ho
 have HTA := hd ta
 have HMN := hd hm
 clear hn ho ta hm
 obtain ⟨W0, hW, hst⟩ := jM w c o m
 have HW := hd hW
 have HM := hd hst
 clear hW hst
 go_enter Tryz.func82, Tryz.ntmps82
 go_upto_region 1 with fail
 rw [HW.out]
 clear HW
 have HM := hd (HM.out.call ((Below.refl _ _).drew))
 refine jO (S := fun W' => jT 26 W' (w.heap.size + 1 + 1) m.row /\ jR W' (w.heap.size + 1) o) (z := fun _ => false) (by kernel_rfl) ?_
 have HSS := hd (And.intro HM.out.v5 HM.out.v4)
 refine zH (i := 0) (n := 9) (.pointer (some ⟨w.heap.size + 1, 3, none⟩)) rfl (by kernel_rfl) (by kernel_rfl) (by kernel_rfl) (by kernel_rfl) (fun _ _ _ h => h) (by kernel_rfl) (fun W9 hW9 => ?_) HSS.out ?_
 ·go_simp
 simp only [Act.put, List.getElem_toArray, List.getElem_cons_zero, List.setIfInBounds_toArray, List.set_cons_succ, List.set_cons_zero]
 refine zH (i := 1) (n := 8) (.int .i64 o.z) rfl (by kernel_rfl) (by kernel_rfl) (by kernel_rfl) (by kernel_rfl) (fun _ _ _ h => h) (by kernel_rfl) (fun W9 hW9 => ?_) HSS.out ?_
 ·exact kV (j := 3) hW9.2.toR _ rfl rfl rfl Tryz.underlying3 rfl
 refine zAi ?_
 refine zH (i := 2) (n := 7) (.bool true) rfl (by kernel_rfl) (by kernel_rfl) (by kernel_rfl) (by kernel_rfl) (fun _ _ _ h => h) (by kernel_rfl) (fun W9 hW9 => ?_) HSS.out ?_
 ·go_simp
 refine zAi ?_
 refine zH (i := 3) (n := 6) (.bool true) rfl (by kernel_rfl) (by kernel_rfl) (by kernel_rfl) (by kernel_rfl) (fun _ _ _ h => h) (by kernel_rfl) (fun W9 hW9 => ?_) HSS.out ?_
 ·go_simp
 refine zAi ?_
 refine zBx (i := 4) (n := 5) rfl (by kernel_rfl) (by kernel_rfl) (by kernel_rfl) (by kernel_rfl) (fun _ _ _ h => h) (by kernel_rfl) HSS.out ?_
 simp only [Act.put]
 refine zBx (i := 5) (n := 4) rfl (by kernel_rfl) (by kernel_rfl) (by kernel_rfl) (by kernel_rfl) (fun _ _ _ h => h) (by kernel_rfl) HSS.out ?_
 simp only [Act.put]
 refine zBx (i := 6) (n := 3) rfl (by kernel_rfl) (by kernel_rfl) (by kernel_rfl) (by kernel_rfl) (fun _ _ _ h => h) (by kernel_rfl) HSS.out ?_
 simp only [Act.put]
 refine zBx (i := 7) (n := 2) rfl (by kernel_rfl) (by kernel_rfl) (by kernel_rfl) (by kernel_rfl) (fun _ _ _ h => h) (by kernel_rfl) HSS.out ?_
 simp only [Act.put]
 refine zBx (i := 8) (n := 1) rfl (by kernel_rfl) (by kernel_rfl) (by kernel_rfl) (by kernel_rfl) (fun _ _ _ h => h) (by kernel_rfl) HSS.out ?_
 simp only [Act.put]
 exact kQe
set_option maxRecDepth 100000 in
theorem zXe {w : World} {c : NC} {o : OC} {m : NC} {n mt : NT} {a : OpP} {E : Int} (hn : kS w c n) (ho : OkA w o a) (ta : zAf a) (hm : kS w m mt) (hz : decide (o.z < 0) = false) (hln : zXd mt = E) (hov : decide (E < o.z) = true) : Calls Tryz.prog 82 #[.agg c.row, .agg o.row, .agg m.row] w (zAm w (zeroT, 8)) := by
 have HLN := hd hln
 have HN := hd hn
 have HO := hd ho
 have HTA := hd ta
 have HMN := hd hm
 clear hn ho ta hm hln
 obtain ⟨W0, hW, hst⟩ := jM w c o m
 have HW := hd hW
 have HM := hd hst
 clear hW hst
 go_enter Tryz.func82, Tryz.ntmps82
 go_upto_region 1 with fail
 rw [HW.out]
 clear HW
 have HM := hd (HM.out.call ((Below.refl _ _).drew))
 refine jO (S := fun W' => jT 26 W' (w.heap.size + 1 + 1) m.row /\ jR W' (w.heap.size + 1) o) (z := fun _ => false) (by kernel_rfl) ?_
 have HSS := hd (And.intro HM.out.v5 HM.out.v4)
 refine zH (i := 0) (n := 9) (.pointer (some ⟨w.heap.size + 1, 3, none⟩)) rfl (by kernel_rfl) (by kernel_rfl) (by kernel_rfl) (by kernel_rfl) (fun _ _ _ h => h) (by kernel_rfl) (fun W9 hW9 => ?_) HSS.out ?_
 ·go_simp
 simp only [Act.put, List.getElem_toArray, List.getElem_cons_zero, List.setIfInBounds_toArray, List.set_cons_succ, List.set_cons_zero]
 refine zH (i := 1) (n := 8) (.int .i64 o.z) rfl (by kernel_rfl) (by kernel_rfl) (by kernel_rfl) (by kernel_rfl) (fun _ _ _ h => h) (by kernel_rfl) (fun W9 hW9 => ?_) HSS.out ?_
 ·exact kV (j := 3) hW9.2.toR _ rfl rfl rfl Tryz.underlying3 rfl
 refine zAi ?_
 refine zH (i := 2) (n := 7) (.bool false) rfl (by kernel_rfl) (by kernel_rfl) (by kernel_rfl) (by kernel_rfl) (fun _ _ _ h => h) (by kernel_rfl) (fun W9 hW9 => ?_) HSS.out ?_
 ·go_simp
 refine zAi ?_
 refine zH (i := 3) (n := 6) (.bool false) rfl (by kernel_rfl) (by kernel_rfl) (by kernel_rfl) (by kernel_rfl) (fun _ _ _ h => h) (by kernel_rfl) (fun W9 hW9 => ?_) HSS.out ?_
 ·go_simp
 refine zAi ?_
 refine zH (i := 4) (n := 5) (.pointer (some ⟨w.heap.size + 1, 3, none⟩)) rfl (by kernel_rfl) (by kernel_rfl) (by kernel_rfl) (by kernel_rfl) (fun _ _ _ h => h) (by kernel_rfl) (fun W9 hW9 => ?_) HSS.out ?_
 ·go_simp
 refine zAi ?_
 refine zH (i := 5) (n := 4) (.int .i64 o.z) rfl (by kernel_rfl) (by kernel_rfl) (by kernel_rfl) (by kernel_rfl) (fun _ _ _ h => h) (by kernel_rfl) (fun W9 hW9 => ?_) HSS.out ?_
 ·exact kV (j := 3) hW9.2.toR _ rfl rfl rfl Tryz.underlying3 rfl
 refine zAi ?_
 refine zH (i := 6) (n := 3) (.agg m.row) rfl (by kernel_rfl) (by kernel_rfl) (by kernel_rfl) (by kernel_rfl) (fun _ _ _ h => h) (by kernel_rfl) (fun W9 hW9 => ?_) HSS.out ?_
 ·exact zS zD hW9.1 rfl _ rfl rfl
 refine zAi ?_
 refine kJ (i := 7) (n := 2) (by kernel_rfl) rfl (fun K hK => ?_)
 rw [if_pos (by kernel_rfl)]
 go_simp
 go_at_call 127
 refine (zDu (c := m) (HMN.out.later HM.out.below) HLN.out).mono ?_
 rintro e w1 ⟨rfl, b9⟩
 have HM := hd (HM.out.call b9)
 clear b9 HSS
 have HSS := hd (And.intro HM.out.v5 HM.out.v4)
 refine hK _ _ (fun _ => HSS.out) ?_
 clear hK K
 refine zH (i := 8) (n := 1) (.bool true) rfl (by kernel_rfl) (by kernel_rfl) (by kernel_rfl) (by kernel_rfl) (fun _ _ _ h => h) (by kernel_rfl) (fun W9 hW9 => ?_) HSS.out ?_
 ·go_simp
 refine zAi ?_
 exact kQe
end Go.Proofs.YtmkciabefepelaaGreat
