/- Do on a labelled tree: a text put in, taken out. -/
import Derived.Test.YtmkciabefepelaaGreatHDo1
set_option maxRecDepth 4000
set_option maxHeartbeats 8000000
namespace Go.Proofs.YtmkciabefepelaaGreat
open Go.RowKit
theorem kNj {P Q : Prop} (k : Q) (h : Q -> P := by
 intro kk
 simp only [Act.put, List.getElem_toArray, List.getElem_cons_succ, List.getElem_cons_zero, List.setIfInBounds_toArray, List.set_cons_succ, List.set_cons_zero]
 exact kk) : P := h k
theorem kOt (A : Option Addr) (n c k : Nat) (hk : k <= c) : ∀ W : World, (Instr.slice 27 (.slice A n c) none (some (.int .i64 (k : Int))) none).run Tryz.prog W = .ok (.slice A k c) W := fun W => by
 have he : Tryz.prog.elem 27 = 3 := by kernel_rfl
 have hs : ∀ W, (sizeOf 3).run Tryz.prog W = .ok 1 W := fun _ => by kernel_rfl
 rw [run_slice_h W 27 A n c (by rw [he]; exact Tryz.underlying27) .i64 _ (by omega) (by omega), he, hs]
 have e : (A.map fun x => x.add 0) = A := by
  cases A
  ·rfl
  ·simp [Addr.add]
 simp [Result.andThen, sliced, e]
theorem kPb (A : Option Addr) (n c k : Nat) (hk : k <= n) (hc : n <= c) : ∃ D : Option Addr, (∀ (w : World) (B : Nat) (xs : List Value), VL w B A xs -> xs.length = n -> VL w B D (xs.drop k)) /\
  (∀ W : World, (Instr.slice 27 (.slice A n c) (some (.int .i64 (k : Int))) none none).run Tryz.prog W = .ok (.slice D (n - k) (c - k)) W) := by
 refine ⟨if c = k then A else A.map (·.add (k * 1)), fun w B xs h hx => h.drop k c n hx.symm hc, fun W => ?_⟩
 have he : Tryz.prog.elem 27 = 3 := by kernel_rfl
 have hs : ∀ W, (sizeOf 3).run Tryz.prog W = .ok 1 W := fun _ => by kernel_rfl
 rw [run_slice_l W 27 A n c (by rw [he]; exact Tryz.underlying27) .i64 _ (by omega) (by omega), he, hs]
 simp [Result.andThen, sliced]
theorem kOa : ∀ (p : List Int) {w w' : World} {v u : Value}, kPi w v p u -> Below w.heap.size w w' -> kPi w' v p u
 | [], _, _, _, _, h, _ => h
 | _i :: r, _, _, _, _, ⟨b, lab, R, g, nk, c, j, x, h1, h2, h3, h4, h5, h6, h7, h8⟩, hb => ⟨b, lab, R, g, nk, c, j, x, h1, h2.keep hb, h3, h4, h5, h6, (hb.cell (p := ⟨g, j, none⟩) (kQ h7)).trans h7, kOa r h8 hb⟩
theorem kQ2 (l : List Int) (j : Nat) : (l ++ List.replicate (j + 1) (-2)).map (Value.int .i64) = (l ++ List.replicate j (-2)).map (Value.int .i64) ++ [Value.int .i64 (-2)] := by
 rw [List.replicate_succ', <- List.append_assoc, List.map_append]; rfl
theorem kRd {w : World} {b : Nat} {lab : Int} {rs : List Int} {ks : List NT} {K : Value} {A : Option Addr} {c : Nat} {us : List Value} {Fs : Nat -> Nat -> Prop} {F : Nat -> Prop} (h : GhO w b lab rs ks (.slice A rs.length c) K us Fs F) : VL w w.heap.size A (rs.map (Value.int .i64)) := VP.vl (kRj h.hr fun g hg => (h.hr.lt g hg).2) (fun _ h => h)
theorem GhO.rerune {w w' : World} {b : Nat} {lab : Int} {rs rs' : List Int} {ks : List NT} {R R' K : Value} {us : List Value} {Fs : Nat -> Nat -> Prop} {F : Nat -> Prop} (h : GhO w b lab rs ks R K us Fs F) (hF : ∀ q, F q -> q < w.heap.size) (hv : jT 59 w' b #[.int .i64 lab, R', K]) (hr : w'.ownsRow w.heap.size 3 1 R' rs'.length (rs'.map (Value.int .i64)))
  (keep : ∀ q, q < w.heap.size -> q ≠ b -> w'.heap[q]? = w.heap[q]?) : Gh w' (.pointer (some ⟨b, 0, none⟩)) (.mk false [] (lab :: rs') ks) (fun q => F q ∨ (w.heap.size <= q /\ q < w'.heap.size)) := by
 have hbl := h.hb.lt
 have hn := hr.lt
 exact .mk _ b lab rs' ks R' K us Fs hv (.inl h.hF) (kNn hr fun _ _ => Nat.zero_le _) (kNl h.hk fun q hq => keep q (h.hk.lt q hq).2 (h.fk q hq).2.1) h.hl (fun q hq => ⟨.inr (hn q hq), by have := hn q hq; omega⟩)
  (fun q hq => ⟨.inl (h.fk q hq).1, (h.fk q hq).2.1, fun e => by have := hn q e; have := hF q (h.fk q hq).1; omega⟩) (fun j m u e1 e2 => (h.kids j m u e1 e2).frame fun q hq => keep q (hF q (h.sub j q hq).1) (h.sub j q hq).2.1)
  (fun j q hq => ⟨.inl (h.sub j q hq).1, (h.sub j q hq).2.1, fun e => by have := hn q e; have := hF q (h.sub j q hq).1; omega, (h.sub j q hq).2.2.2⟩) h.dis
theorem kQn {P : Prop} (h : P := by
 rw [e1, <- List.map_append] at hown
 rw [e1] at hv6
 have G1 := HO1.out.rerune (fun q h => (hFF q (hsub q h)).2.1) hv6 (kN5 hown HO6.out fun e => by have := (hown.lt _ e).1; omega) keep
 have hbF : F b := hsub b HO1.out.hF
 have G2 := HREP.out W6 _ _ G1 (fun q h1 h2 => keep q (hFF q h1).2.1 fun e => h2 (e ▸ HO1.out.hF)) (fun q h1 h2 h3 => by
  rcases h1 with h1 | h1
  ·exact h2 h1
  ·have := (hFF q h3).2.1; omega)
 refine ⟨_, rfl, G2, fun q h => ?_, HT.out.trans ((Tch.of_below (F := F) (show Below W1.heap.size W1 W4 from HB4.out)).trans (Tch.trans (F := fun q => W1.heap.size <= q ∨ F q) ⟨HGR.out.os, HGR.out.tape, HGR.out.output, hs5, fun q hq hn => HGR.out.block q hq fun e => hn (.inl (HR4.out.lt _ e.symm).1)⟩ (Tch.of_off HO6.out (F := F) hbF) (fun q _ h => .inr h)) (fun q hq h => by rcases h with h | h; (omega); exact h)) fun q _ h => h⟩
 rcases h with h | h | h
 ·exact .inl h.1
 ·exact .inl (hsub q h)
 ·exact .inr h) : P := h
set_option maxRecDepth 100000 in
theorem kRu {w0 w : World} {v : Value} {g : NT} {F : Nat -> Prop} {o : OC} {a : OpP} {lab : Int} {rs : List Int} {ks : List NT} {k : Nat} (hG : Gh w v g F) (hF : ∀ q, F q -> w0.heap.size <= q /\ q < w.heap.size) (ho : OkA w0 o a) (hw : Below w0.heap.size w0 w) (ta : zAf a) (hk : o.k = 7) (hx : kB g a.q = some (.mk false [] (lab :: rs) ks)) (hz : o.z = (k : Int)) (hkr : k <= rs.length) (hrl : rs.length <= 500000) : Calls Tryz.prog 24 #[v, .agg o.row] w (kQ1 F v (putT g a.q (.mk false [] (lab :: (rs.take k ++ List.replicate o.nx (-2) ++ rs.drop k)) ks)) w) := by
 first | have k1 : (o.k == 1) = true := by simp [hk] | have k1 : (o.k == 1) = false := by simp [hk]
 first | have k2 : (o.k == 2) = true := by simp [hk] | have k2 : (o.k == 2) = false := by simp [hk]
 first | have k3 : (o.k == 3) = true := by simp [hk] | have k3 : (o.k == 3) = false := by simp [hk]
 first | have k4 : (o.k == 4) = true := by simp [hk] | have k4 : (o.k == 4) = false := by simp [hk]
 first | have k5 : (o.k == 5) = true := by simp [hk] | have k5 : (o.k == 5) = false := by simp [hk]
 first | have k7 : (o.k == 7) = true := by simp [hk] | have k7 : (o.k == 7) = false := by simp [hk]
 first | have k8 : (o.k == 8) = true := by simp [hk] | have k8 : (o.k == 8) = false := by simp [hk]
 clear hk
 obtain ⟨pu, Fm, hpt, hGm, hsub, hrep⟩ := Gh.sub a.q hG hx
 obtain ⟨b, lab', rs', ks', RA, rc, KA, kc, us, Fs, rfl, e0, hO⟩ := hGm.opened
 simp only [NT.mk.injEq, List.cons.injEq, true_and] at e0
 obtain ⟨⟨rfl, rfl⟩, rfl⟩ := e0
 obtain ⟨RA', rc', eR, hrc, hrm, _⟩ := zC9 hO.hr
 injection eR with eR1 _ eR2
 subst eR1 eR2
 have hrunA : ∀ W : World, (Instr.slice 27 (.slice RA rs.length rc) none (some (.int .i64 o.z)) none).run Tryz.prog W = .ok (.slice RA k rc) W := by rw [hz]; exact kOt RA rs.length rc k (by omega)
 obtain ⟨D, hD, hrunB0⟩ := kPb RA rs.length rc k (by omega) hrc
 have hrunB : ∀ W : World, (Instr.slice 27 (.slice RA rs.length rc) (some (.int .i64 o.z)) none none).run Tryz.prog W = .ok (.slice D (rs.length - k) (rc - k)) W := by rw [hz]; exact hrunB0
 have hzb : 0 <= o.z /\ o.z <= 500000 := by omega
 have hbw0 : b < w.heap.size := hO.hb.lt
 have hnx : o.nx <= 1000 := by have := ta.hx; have := ho.hnx; omega
 have HZB := hd hzb
 have HRA := hd hrunA
 have HRB := hd hrunB
 have HD := hd hD
 have HO1 := hd hO
 have HREP := hd hrep
 have HSUB := hd hsub
 have HPT := hd hpt
 have HVL := hd (kRd hO)
 clear hO hrep hsub hpt hGm hx hD hrunA hrunB hrunB0 hz hzb
 obtain ⟨W1, hW1⟩ : ∃ W, w.alloc (.cells o.row 35) = W := ⟨_, rfl⟩
 have hv : jR W1 w.heap.size o := hW1 ▸ jR.new w o
 have hbw : Below w.heap.size w W1 := hW1 ▸ (Below.refl _ _).alloc (Nat.le_refl _) _
 have hwl := hw.size
 have HV := hd hv
 have HB := hd (hw.trans (hbw.mono hwl))
 clear hG
 have HF := hd (fun q (h : F q) => (⟨(hF q h).1, (hF q h).2, Nat.lt_of_lt_of_le (hF q h).2 hbw.size⟩ : w0.heap.size <= q /\ q < w.heap.size /\ q < W1.heap.size))
 have HPT := hd (show kPi W1 _ a.q _ from kOa _ HPT.out hbw)
 have HVB := hd (show jT 59 W1 b #[.int .i64 lab, .slice RA rs.length rc, .slice KA ks.length kc] from (hbw.block b hbw0).trans HO1.out.hb)
 have HBW := hd hbw
 have HT := hd (Tch.of_below (F := F) hbw)
 have HO := hd ho
 have HTA := hd ta
 have HW := hd hW1
 have hs1 : W1.heap.size = w.heap.size + 1 := by rw [<- hW1]; simp
 clear hF ho hw ta hv hbw hW1
 go_enter Tryz.func24, Tryz.ntmps24
 go_upto_region 1 with fail
 rw [HW.out]
 clear HW
 go_upto_region 32 with (first
  | ((with_reducible refine zC (ty := 3) (x := .tmp 17) ?_); refine zE HV.out (j := 0) (v := .int .i64 o.k) _ rfl rfl rfl rfl Tryz.underlying3 rfl ?_)
  | ((with_reducible refine zC (ty := 27) (x := .tmp 189) ?_); refine zE HV.out (j := 1) (v := .slice o.Q o.lq o.cq) _ rfl rfl rfl rfl Tryz.underlying27 rfl ?_)
  | (go_at_call 27; refine Calls.mono (kOd HPT.out ((HO.out.later HB.out).hasq HTA.out)) ?_; rintro e w1 ⟨rfl, hw1⟩; have hw1 := hw1.symm; subst hw1)
  | fail)
 obtain ⟨W2, hW2⟩ : ∃ W, W1.drew = W := ⟨_, rfl⟩
 have HV2 := hd (hW2 ▸ (show jR W1.drew w.heap.size o from HV.out) : jR W2 w.heap.size o)
 have HVB2 := hd (hW2 ▸ (show jT 59 W1.drew b _ from HVB.out) : jT 59 W2 b #[.int .i64 lab, .slice RA rs.length rc, .slice KA ks.length kc])
 have HBB2 := hd (hW2 ▸ ((Below.refl _ _).drew) : Below W1.heap.size W1 W2)
 have hs2 : W2.heap.size = W1.heap.size := by rw [<- hW2]; rfl
 refine jO (S := fun W' => jT 59 W' b #[.int .i64 lab, .slice RA rs.length rc, .slice KA ks.length kc] /\ jR W' w.heap.size o) (z := fun _ => false) (by kernel_rfl) ?_
 rw [hW2]
 clear hW2
 have HSS := hd (And.intro HVB2.out HV2.out)
 refine zH (i := 0) (n := 9) (.slice none 0 0) rfl (by kernel_rfl) (by kernel_rfl) (by kernel_rfl) (by kernel_rfl) (fun _ _ _ h => h) (by kernel_rfl) (fun W9 hW9 => ?_) HSS.out ?_
 ·go_simp
 simp only [Act.put, List.getElem_toArray, List.getElem_cons_zero, List.setIfInBounds_toArray, List.set_cons_succ, List.set_cons_zero]
 refine zH (i := 1) (n := 8) (.pointer (some ⟨b, 0, none⟩)) rfl (by kernel_rfl) (by kernel_rfl) (by kernel_rfl) (by kernel_rfl) (fun _ _ _ h => h) (by kernel_rfl) (fun W9 hW9 => ?_) HSS.out ?_
 ·go_simp
 refine kNj ?_
 refine zH (i := 2) (n := 7) (.pointer (some ⟨b, 0, none⟩)) rfl (by kernel_rfl) (by kernel_rfl) (by kernel_rfl) (by kernel_rfl) (fun _ _ _ h => h) (by kernel_rfl) (fun W9 hW9 => ?_) HSS.out ?_
 ·go_simp
 refine kNj ?_
 refine zH (i := 3) (n := 6) (.pointer (some ⟨b, 1, none⟩)) rfl (by kernel_rfl) (by kernel_rfl) (by kernel_rfl) (by kernel_rfl) (fun _ _ _ h => h) (by kernel_rfl) (fun W9 hW9 => ?_) HSS.out ?_
 ·go_simp
 refine kNj ?_
 refine zH (i := 4) (n := 5) (.slice RA rs.length rc) rfl (by kernel_rfl) (by kernel_rfl) (by kernel_rfl) (by kernel_rfl) (fun _ _ _ h => h) (by kernel_rfl) (fun W9 hW9 => ?_) HSS.out ?_
 ·exact kV (j := 1) hW9.1 _ rfl rfl rfl Tryz.underlying27 rfl
 refine kNj ?_
 refine zH (i := 5) (n := 4) (.pointer (some ⟨w.heap.size, 3, none⟩)) rfl (by kernel_rfl) (by kernel_rfl) (by kernel_rfl) (by kernel_rfl) (fun _ _ _ h => h) (by kernel_rfl) (fun W9 hW9 => ?_) HSS.out ?_
 ·go_simp
 refine kNj ?_
 refine zH (i := 6) (n := 3) (.int .i64 o.z) rfl (by kernel_rfl) (by kernel_rfl) (by kernel_rfl) (by kernel_rfl) (fun _ _ _ h => h) (by kernel_rfl) (fun W9 hW9 => ?_) HSS.out ?_
 ·exact kV (j := 3) hW9.2.toR _ rfl rfl rfl Tryz.underlying3 rfl
 refine kNj ?_
 refine zH (i := 7) (n := 2) (.slice RA k rc) rfl (by kernel_rfl) (by kernel_rfl) (by kernel_rfl) (by kernel_rfl) (fun _ _ _ h => h) (by kernel_rfl) (fun W9 hW9 => ?_) HSS.out ?_
 ·have hrunA := HRA.out; go_simp
 refine kNj ?_
 refine kJ (i := 8) (n := 1) (by kernel_rfl) rfl (fun K hK => ?_)
 refine kN8 giG W2 rfl _ _ rfl W1.heap.size rfl RA k rc w.heap.size ((rs.take k).map (Value.int .i64)) rfl (by simp; omega) (by rw [List.map_take]; exact (HVL.out.take k).below ((HBW.out.trans (HBB2.out.mono (by omega))))) (kN7 _) (by unfold maxLen; omega) (by omega) (by omega) ?_
 intro A1 c1 W3 hown hb3 hat
 have HOWN := hd hown
 have hs3 := hb3.size
 have HB3 := hd (HBB2.out.trans (hb3.mono (by omega)))
 have HV3 := hd (show jR W3 w.heap.size o from (hb3.block _ HV2.out.lt).trans HV2.out)
 have HVB3 := hd (HVB2.out.keep hb3)
 clear hown hb3 hat HSS
 have HSS := hd (And.intro HVB3.out HV3.out)
 refine kNj ?_
 refine hK _ _ (fun _ => HSS.out) ?_
 clear hK K
 refine kJ (i := 9) (n := 0) (by kernel_rfl) rfl (fun K hK => ?_)
 rw [if_pos (by kernel_rfl)]
 go_simp
 refine hK _ _ (fun _ => HSS.out) (zAl (by kernel_rfl) ?_)
 clear hK K HSS
 go_wp2_with (first
  | ((with_reducible refine zC (ty := 23) (x := .tmp 201) ?_); refine zE HV3.out (j := 10) (v := .slice o.S o.nx o.cx) _ rfl rfl rfl rfl Tryz.underlying23 rfl ?_)
  | fail)
 go_loopw [14, 204] (fun l i wr => ∃ (j : Nat) (A : Option Addr) (c : Nat), j <= o.nx /\ l = .slice A (k + j) c /\ i = .int .i64 j /\ Hid (wr.ownsRow W1.heap.size 3 1 (.slice A (k + j) c) (k + j) ((rs.take k ++ List.replicate j (-2)).map (Value.int .i64))) /\ Hid (Below W1.heap.size W1 wr)) (fun _ i _ => o.nx - (intOf i).toNat)
 case atStart => exact ⟨0, A1, c1, Nat.zero_le _, rfl, rfl, hd (by simpa using HOWN.out), HB3⟩
 case round =>
  obtain ⟨j, A, c, hj, rfl, rfl, HR, HBR⟩ := hrel
  clear HOWN HB3 HV3 HVB3
  by_cases hlt : j < o.nx
  ·go_wp2_with (at_builtin; refine kN1 giG wr rfl (.tmp 206) (.tmp 207) rfl W1.heap.size (.slice A (k + j) c) (k + j) ((rs.take k ++ List.replicate j (-2)).map (Value.int .i64)) [.int .i64 (-2)] rfl HR.out rfl rfl (by simp [Value.oneCell']) (by omega) (by decide) HBR.out.size ?_; intro A2 c2 w2 hown hgr hat; have HOWN2 := hd hown; have HB5 := hd ((HBR.out.alloc HBR.out.size _).grown hgr (by have := HBR.out.size; simp; omega) (fun j hj => (HR.out.lt _ hj).1)); clear hown hgr hat)
   go_roundw
   case rel => exact ⟨j + 1, A2, c2, by omega, rfl, by go_num, hd (by have h := HOWN2.out; rw [<- kQ2] at h; exact h), HB5⟩
   case measure => simp [intOf]; omega
  ·obtain rfl : j = o.nx := by omega
   go_upto_region 37 with fail
   obtain ⟨W4, hW4⟩ : ∃ W, wr.drew = W := ⟨_, rfl⟩
   have HB4 := hd (hW4 ▸ zZ HBR.out 1 : Below W1.heap.size W1 W4)
   have HV4 := hd (show jR W4 w.heap.size o from (HB4.out.block _ HV.out.lt).trans HV.out)
   have HVB4 := hd (show jT 59 W4 b #[.int .i64 lab, .slice RA rs.length rc, .slice KA ks.length kc] from (HB4.out.block _ HVB.out.lt).trans HVB.out)
   have HR4 := hd (hW4 ▸ HR.out : W4.ownsRow W1.heap.size 3 1 (.slice A (k + o.nx) c) (k + o.nx) ((rs.take k ++ List.replicate o.nx (-2)).map (Value.int .i64)))
   refine jO (S := fun W' => jT 59 W' b #[.int .i64 lab, .slice RA rs.length rc, .slice KA ks.length kc] /\ jR W' w.heap.size o) (z := fun j => j == 12) (by kernel_rfl) ?_
   rw [hW4]
   clear hW4
   have HSS := hd (And.intro HVB4.out HV4.out)
   refine zH (i := 0) (n := 12) (.pointer (some ⟨b, 0, none⟩)) rfl (by kernel_rfl) (by kernel_rfl) (by kernel_rfl) (by kernel_rfl) (fun _ _ _ h => h) (by kernel_rfl) (fun W9 hW9 => ?_) HSS.out ?_
   ·go_simp
   simp only [Act.put, List.getElem_toArray, List.getElem_cons_zero, List.setIfInBounds_toArray, List.set_cons_succ, List.set_cons_zero]
   refine zH (i := 1) (n := 11) (.slice A (k + o.nx) c) rfl (by kernel_rfl) (by kernel_rfl) (by kernel_rfl) (by kernel_rfl) (fun _ _ _ h => h) (by kernel_rfl) (fun W9 hW9 => ?_) HSS.out ?_
   ·go_simp
   refine kNj ?_
   refine zH (i := 2) (n := 10) (.pointer (some ⟨b, 0, none⟩)) rfl (by kernel_rfl) (by kernel_rfl) (by kernel_rfl) (by kernel_rfl) (fun _ _ _ h => h) (by kernel_rfl) (fun W9 hW9 => ?_) HSS.out ?_
   ·go_simp
   refine kNj ?_
   refine zH (i := 3) (n := 9) (.pointer (some ⟨b, 0, none⟩)) rfl (by kernel_rfl) (by kernel_rfl) (by kernel_rfl) (by kernel_rfl) (fun _ _ _ h => h) (by kernel_rfl) (fun W9 hW9 => ?_) HSS.out ?_
   ·go_simp
   refine kNj ?_
   refine zH (i := 4) (n := 8) (.pointer (some ⟨b, 1, none⟩)) rfl (by kernel_rfl) (by kernel_rfl) (by kernel_rfl) (by kernel_rfl) (fun _ _ _ h => h) (by kernel_rfl) (fun W9 hW9 => ?_) HSS.out ?_
   ·go_simp
   refine kNj ?_
   refine zH (i := 5) (n := 7) (.slice RA rs.length rc) rfl (by kernel_rfl) (by kernel_rfl) (by kernel_rfl) (by kernel_rfl) (fun _ _ _ h => h) (by kernel_rfl) (fun W9 hW9 => ?_) HSS.out ?_
   ·exact kV (j := 1) hW9.1 _ rfl rfl rfl Tryz.underlying27 rfl
   refine kNj ?_
   refine zH (i := 6) (n := 6) (.pointer (some ⟨w.heap.size, 3, none⟩)) rfl (by kernel_rfl) (by kernel_rfl) (by kernel_rfl) (by kernel_rfl) (fun _ _ _ h => h) (by kernel_rfl) (fun W9 hW9 => ?_) HSS.out ?_
   ·go_simp
   refine kNj ?_
   refine zH (i := 7) (n := 5) (.int .i64 o.z) rfl (by kernel_rfl) (by kernel_rfl) (by kernel_rfl) (by kernel_rfl) (fun _ _ _ h => h) (by kernel_rfl) (fun W9 hW9 => ?_) HSS.out ?_
   ·exact kV (j := 3) hW9.2.toR _ rfl rfl rfl Tryz.underlying3 rfl
   refine kNj ?_
   refine zH (i := 8) (n := 4) (.slice D (rs.length - k) (rc - k)) rfl (by kernel_rfl) (by kernel_rfl) (by kernel_rfl) (by kernel_rfl) (fun _ _ _ h => h) (by kernel_rfl) (fun W9 hW9 => ?_) HSS.out ?_
   ·have hrunB := HRB.out; go_simp
   refine kNj ?_
   refine kJ (i := 9) (n := 3) (by kernel_rfl) rfl (fun K hK => ?_)
   refine zIq giG W4 rfl _ _ rfl W1.heap.size (.slice A (k + o.nx) c) (k + o.nx) ((rs.take k ++ List.replicate o.nx (-2)).map (Value.int .i64)) rfl HR4.out D (rs.length - k) (rc - k) w.heap.size ((rs.drop k).map (Value.int .i64)) rfl (by simp) (by rw [List.map_drop]; exact (HD.out _ _ _ HVL.out (by simp)).below (HBW.out.trans (HB4.out.mono (by omega)))) (kN7 _) (by unfold maxLen; omega) (by omega) (HB4.out.size) ?_
   intro A2 c2 W5 hown hgr hat
   have HOWN5 := hd hown
   have HGR := hd hgr
   have hs5 := hgr.size
   have HVB5 := hd (HVB4.out.grew hgr (fun e => by have := (HR4.out.lt _ e).1; omega))
   have HV5 := hd (show jR W5 w.heap.size o from (hgr.block _ HV4.out.lt (fun e => by have := (HR4.out.lt _ e.symm).1; omega)).trans HV4.out)
   clear hown hgr hat HSS
   have HSS := hd (And.intro HVB5.out HV5.out)
   refine kNj ?_
   refine hK _ _ (fun _ => HSS.out) ?_
   clear hK K
   refine kJ (i := 10) (n := 2) (by kernel_rfl) rfl (fun K hK => ?_)
   rw [if_pos (by kernel_rfl)]
   go_simp
   refine hK _ _ (fun _ => HSS.out) ?_
   clear hK K
   refine kJ (i := 11) (n := 1) (by kernel_rfl) rfl (fun K hK => ?_)
   rw [if_pos (by kernel_rfl)]
   go_simp
   refine hK _ _ (fun _ => HSS.out) ?_
   clear hK K
   refine kJ (i := 12) (n := 0) (by kernel_rfl) rfl (fun K hK => ?_)
   rw [if_pos (by kernel_rfl)]
   refine zY zCa HVB5.out _ _ rfl rfl 1 _ [.slice A2 (k + o.nx + (rs.length - k)) c2] rfl rfl rfl rfl (zHt rfl) (Nat.le_of_ble_eq_true rfl) ?_
   intro W6 hv ho
   have HV6 := hd (show jT 59 W6 b #[.int .i64 lab, .slice A2 (k + o.nx + (rs.length - k)) c2, .slice KA ks.length kc] from hv)
   have HO6 := hd ho
   clear hv ho
   refine hK _ _ (fun h => absurd h (by decide)) (zAl (by kernel_rfl) ?_)
   clear hK K HSS
   go_wp2_with fail
   go_end0
   have hFF := HF.out
   have hsub := HSUB.out
   have hs4 := HB4.out.size
   have hs6 := HO6.out.size
   have keep : ∀ q, q < w.heap.size -> q ≠ b -> W6.heap[q]? = w.heap[q]? := fun q hq hne => by
    rw [HO6.out.block q (by omega) hne, HGR.out.block q (by omega) (fun e => by have := (HR4.out.lt _ e.symm).1; omega), HB4.out.block q (by omega), HBW.out.block q hq]
   have hown := kNn (base' := w.heap.size) HOWN5.out (fun q hq => by have := (HOWN5.out.lt q hq).1; omega)
   have hv6 := HV6.out
   have e1 : k + o.nx + (rs.length - k) = (rs.take k ++ List.replicate o.nx (-2) ++ rs.drop k).length := by simp; omega
   exact kQn
set_option maxRecDepth 100000 in
theorem kRv {w0 w : World} {v : Value} {g : NT} {F : Nat -> Prop} {o : OC} {a : OpP} {lab : Int} {rs : List Int} {ks : List NT} {k : Nat} (hG : Gh w v g F) (hF : ∀ q, F q -> w0.heap.size <= q /\ q < w.heap.size) (ho : OkA w0 o a) (hw : Below w0.heap.size w0 w) (ta : zAf a) (hk : o.k = 8) (hx : kB g a.q = some (.mk false [] (lab :: rs) ks)) (hz : o.z = (k : Int)) (hkr : k + o.nx <= rs.length) (hrl : rs.length <= 500000) : Calls Tryz.prog 24 #[v, .agg o.row] w (kQ1 F v (putT g a.q (.mk false [] (lab :: (rs.take k ++ rs.drop (k + o.nx))) ks)) w) := by
 first | have k1 : (o.k == 1) = true := by simp [hk] | have k1 : (o.k == 1) = false := by simp [hk]
 first | have k2 : (o.k == 2) = true := by simp [hk] | have k2 : (o.k == 2) = false := by simp [hk]
 first | have k3 : (o.k == 3) = true := by simp [hk] | have k3 : (o.k == 3) = false := by simp [hk]
 first | have k4 : (o.k == 4) = true := by simp [hk] | have k4 : (o.k == 4) = false := by simp [hk]
 first | have k5 : (o.k == 5) = true := by simp [hk] | have k5 : (o.k == 5) = false := by simp [hk]
 first | have k7 : (o.k == 7) = true := by simp [hk] | have k7 : (o.k == 7) = false := by simp [hk]
 first | have k8 : (o.k == 8) = true := by simp [hk] | have k8 : (o.k == 8) = false := by simp [hk]
 clear hk
 obtain ⟨pu, Fm, hpt, hGm, hsub, hrep⟩ := Gh.sub a.q hG hx
 obtain ⟨b, lab', rs', ks', RA, rc, KA, kc, us, Fs, rfl, e0, hO⟩ := hGm.opened
 simp only [NT.mk.injEq, List.cons.injEq, true_and] at e0
 obtain ⟨⟨rfl, rfl⟩, rfl⟩ := e0
 obtain ⟨RA', rc', eR, hrc, hrm, _⟩ := zC9 hO.hr
 injection eR with eR1 _ eR2
 subst eR1 eR2
 have hrunA : ∀ W : World, (Instr.slice 27 (.slice RA rs.length rc) none (some (.int .i64 o.z)) none).run Tryz.prog W = .ok (.slice RA k rc) W := by rw [hz]; exact kOt RA rs.length rc k (by omega)
 obtain ⟨D, hD, hrunB0⟩ := kPb RA rs.length rc (k + o.nx) (by omega) hrc
 have hrunB : ∀ W : World, (Instr.slice 27 (.slice RA rs.length rc) (some (.int .i64 (o.z + (o.nx : Int)))) none none).run Tryz.prog W = .ok (.slice D (rs.length - (k + o.nx)) (rc - (k + o.nx))) W := by rw [hz, show (k : Int) + (o.nx : Int) = ((k + o.nx : Nat) : Int) by omega]; exact hrunB0
 have hzb : 0 <= o.z /\ o.z <= 500000 := by omega
 have hbw0 : b < w.heap.size := hO.hb.lt
 have hnx : o.nx <= 1000 := by have := ta.hx; have := ho.hnx; omega
 have HZB := hd hzb
 have HRA := hd hrunA
 have HRB := hd hrunB
 have HD := hd hD
 have HO1 := hd hO
 have HREP := hd hrep
 have HSUB := hd hsub
 have HPT := hd hpt
 have HVL := hd (kRd hO)
 clear hO hrep hsub hpt hGm hx hD hrunA hrunB hrunB0 hz hzb
 obtain ⟨W1, hW1⟩ : ∃ W, w.alloc (.cells o.row 35) = W := ⟨_, rfl⟩
 have hv : jR W1 w.heap.size o := hW1 ▸ jR.new w o
 have hbw : Below w.heap.size w W1 := hW1 ▸ (Below.refl _ _).alloc (Nat.le_refl _) _
 have hwl := hw.size
 have HV := hd hv
 have HB := hd (hw.trans (hbw.mono hwl))
 clear hG
 have HF := hd (fun q (h : F q) => (⟨(hF q h).1, (hF q h).2, Nat.lt_of_lt_of_le (hF q h).2 hbw.size⟩ : w0.heap.size <= q /\ q < w.heap.size /\ q < W1.heap.size))
 have HPT := hd (show kPi W1 _ a.q _ from kOa _ HPT.out hbw)
 have HVB := hd (show jT 59 W1 b #[.int .i64 lab, .slice RA rs.length rc, .slice KA ks.length kc] from (hbw.block b hbw0).trans HO1.out.hb)
 have HBW := hd hbw
 have HT := hd (Tch.of_below (F := F) hbw)
 have HO := hd ho
 have HTA := hd ta
 have HW := hd hW1
 have hs1 : W1.heap.size = w.heap.size + 1 := by rw [<- hW1]; simp
 clear hF ho hw ta hv hbw hW1
 go_enter Tryz.func24, Tryz.ntmps24
 go_upto_region 1 with fail
 rw [HW.out]
 clear HW
 go_upto_region 41 with (first
  | ((with_reducible refine zC (ty := 3) (x := .tmp 17) ?_); refine zE HV.out (j := 0) (v := .int .i64 o.k) _ rfl rfl rfl rfl Tryz.underlying3 rfl ?_)
  | ((with_reducible refine zC (ty := 27) (x := .tmp 225) ?_); refine zE HV.out (j := 1) (v := .slice o.Q o.lq o.cq) _ rfl rfl rfl rfl Tryz.underlying27 rfl ?_)
  | (go_at_call 27; refine Calls.mono (kOd HPT.out ((HO.out.later HB.out).hasq HTA.out)) ?_; rintro e w1 ⟨rfl, hw1⟩; have hw1 := hw1.symm; subst hw1)
  | fail)
 obtain ⟨W2, hW2⟩ : ∃ W, W1.drew = W := ⟨_, rfl⟩
 have HV2 := hd (hW2 ▸ (show jR W1.drew w.heap.size o from HV.out) : jR W2 w.heap.size o)
 have HVB2 := hd (hW2 ▸ (show jT 59 W1.drew b _ from HVB.out) : jT 59 W2 b #[.int .i64 lab, .slice RA rs.length rc, .slice KA ks.length kc])
 have HBB2 := hd (hW2 ▸ ((Below.refl _ _).drew) : Below W1.heap.size W1 W2)
 have hs2 : W2.heap.size = W1.heap.size := by rw [<- hW2]; rfl
 refine jO (S := fun W' => jT 59 W' b #[.int .i64 lab, .slice RA rs.length rc, .slice KA ks.length kc] /\ jR W' w.heap.size o) (z := fun _ => false) (by kernel_rfl) ?_
 rw [hW2]
 clear hW2
 have HSS := hd (And.intro HVB2.out HV2.out)
 refine zH (i := 0) (n := 9) (.slice none 0 0) rfl (by kernel_rfl) (by kernel_rfl) (by kernel_rfl) (by kernel_rfl) (fun _ _ _ h => h) (by kernel_rfl) (fun W9 hW9 => ?_) HSS.out ?_
 ·go_simp
 simp only [Act.put, List.getElem_toArray, List.getElem_cons_zero, List.setIfInBounds_toArray, List.set_cons_succ, List.set_cons_zero]
 refine zH (i := 1) (n := 8) (.pointer (some ⟨b, 0, none⟩)) rfl (by kernel_rfl) (by kernel_rfl) (by kernel_rfl) (by kernel_rfl) (fun _ _ _ h => h) (by kernel_rfl) (fun W9 hW9 => ?_) HSS.out ?_
 ·go_simp
 refine kNj ?_
 refine zH (i := 2) (n := 7) (.pointer (some ⟨b, 0, none⟩)) rfl (by kernel_rfl) (by kernel_rfl) (by kernel_rfl) (by kernel_rfl) (fun _ _ _ h => h) (by kernel_rfl) (fun W9 hW9 => ?_) HSS.out ?_
 ·go_simp
 refine kNj ?_
 refine zH (i := 3) (n := 6) (.pointer (some ⟨b, 1, none⟩)) rfl (by kernel_rfl) (by kernel_rfl) (by kernel_rfl) (by kernel_rfl) (fun _ _ _ h => h) (by kernel_rfl) (fun W9 hW9 => ?_) HSS.out ?_
 ·go_simp
 refine kNj ?_
 refine zH (i := 4) (n := 5) (.slice RA rs.length rc) rfl (by kernel_rfl) (by kernel_rfl) (by kernel_rfl) (by kernel_rfl) (fun _ _ _ h => h) (by kernel_rfl) (fun W9 hW9 => ?_) HSS.out ?_
 ·exact kV (j := 1) hW9.1 _ rfl rfl rfl Tryz.underlying27 rfl
 refine kNj ?_
 refine zH (i := 5) (n := 4) (.pointer (some ⟨w.heap.size, 3, none⟩)) rfl (by kernel_rfl) (by kernel_rfl) (by kernel_rfl) (by kernel_rfl) (fun _ _ _ h => h) (by kernel_rfl) (fun W9 hW9 => ?_) HSS.out ?_
 ·go_simp
 refine kNj ?_
 refine zH (i := 6) (n := 3) (.int .i64 o.z) rfl (by kernel_rfl) (by kernel_rfl) (by kernel_rfl) (by kernel_rfl) (fun _ _ _ h => h) (by kernel_rfl) (fun W9 hW9 => ?_) HSS.out ?_
 ·exact kV (j := 3) hW9.2.toR _ rfl rfl rfl Tryz.underlying3 rfl
 refine kNj ?_
 refine zH (i := 7) (n := 2) (.slice RA k rc) rfl (by kernel_rfl) (by kernel_rfl) (by kernel_rfl) (by kernel_rfl) (fun _ _ _ h => h) (by kernel_rfl) (fun W9 hW9 => ?_) HSS.out ?_
 ·have hrunA := HRA.out; go_simp
 refine kNj ?_
 refine kJ (i := 8) (n := 1) (by kernel_rfl) rfl (fun K hK => ?_)
 refine kN8 giG W2 rfl _ _ rfl W1.heap.size rfl RA k rc w.heap.size ((rs.take k).map (Value.int .i64)) rfl (by simp; omega) (by rw [List.map_take]; exact (HVL.out.take k).below ((HBW.out.trans (HBB2.out.mono (by omega))))) (kN7 _) (by unfold maxLen; omega) (by omega) (by omega) ?_
 intro A1 c1 W3 hown hb3 hat
 have HOWN := hd hown
 have hs3 := hb3.size
 have HB3 := hd (HBB2.out.trans (hb3.mono (by omega)))
 have HV3 := hd (show jR W3 w.heap.size o from (hb3.block _ HV2.out.lt).trans HV2.out)
 have HVB3 := hd (HVB2.out.keep hb3)
 clear hown hb3 hat HSS
 have HSS := hd (And.intro HVB3.out HV3.out)
 refine kNj ?_
 refine hK _ _ (fun _ => HSS.out) ?_
 clear hK K
 refine kJ (i := 9) (n := 0) (by kernel_rfl) rfl (fun K hK => ?_)
 rw [if_pos (by kernel_rfl)]
 go_simp
 refine hK _ _ (fun _ => HSS.out) (zAl (by kernel_rfl) ?_)
 clear hK K HSS
 go_upto_region 42 with fail
 obtain ⟨W4, hW4⟩ : ∃ W, W3.drew = W := ⟨_, rfl⟩
 have HB4 := hd (hW4 ▸ zZ HB3.out 1 : Below W1.heap.size W1 W4)
 have HV4 := hd (show jR W4 w.heap.size o from (HB4.out.block _ HV.out.lt).trans HV.out)
 have HVB4 := hd (show jT 59 W4 b #[.int .i64 lab, .slice RA rs.length rc, .slice KA ks.length kc] from (HB4.out.block _ HVB.out.lt).trans HVB.out)
 have HR4 := hd (hW4 ▸ HOWN.out : W4.ownsRow W1.heap.size 3 1 (.slice A1 k c1) k ((rs.take k).map (Value.int .i64)))
 refine jO (S := fun W' => jT 59 W' b #[.int .i64 lab, .slice RA rs.length rc, .slice KA ks.length kc] /\ jR W' w.heap.size o) (z := fun j => j == 16) (by kernel_rfl) ?_
 rw [hW4]
 clear hW4
 have HSS := hd (And.intro HVB4.out HV4.out)
 refine zH (i := 0) (n := 16) (.pointer (some ⟨b, 0, none⟩)) rfl (by kernel_rfl) (by kernel_rfl) (by kernel_rfl) (by kernel_rfl) (fun _ _ _ h => h) (by kernel_rfl) (fun W9 hW9 => ?_) HSS.out ?_
 ·go_simp
 simp only [Act.put, List.getElem_toArray, List.getElem_cons_zero, List.setIfInBounds_toArray, List.set_cons_succ, List.set_cons_zero]
 refine zH (i := 1) (n := 15) (.slice A1 k c1) rfl (by kernel_rfl) (by kernel_rfl) (by kernel_rfl) (by kernel_rfl) (fun _ _ _ h => h) (by kernel_rfl) (fun W9 hW9 => ?_) HSS.out ?_
 ·go_simp
 refine kNj ?_
 refine zH (i := 2) (n := 14) (.pointer (some ⟨b, 0, none⟩)) rfl (by kernel_rfl) (by kernel_rfl) (by kernel_rfl) (by kernel_rfl) (fun _ _ _ h => h) (by kernel_rfl) (fun W9 hW9 => ?_) HSS.out ?_
 ·go_simp
 refine kNj ?_
 refine zH (i := 3) (n := 13) (.pointer (some ⟨b, 0, none⟩)) rfl (by kernel_rfl) (by kernel_rfl) (by kernel_rfl) (by kernel_rfl) (fun _ _ _ h => h) (by kernel_rfl) (fun W9 hW9 => ?_) HSS.out ?_
 ·go_simp
 refine kNj ?_
 refine zH (i := 4) (n := 12) (.pointer (some ⟨b, 1, none⟩)) rfl (by kernel_rfl) (by kernel_rfl) (by kernel_rfl) (by kernel_rfl) (fun _ _ _ h => h) (by kernel_rfl) (fun W9 hW9 => ?_) HSS.out ?_
 ·go_simp
 refine kNj ?_
 refine zH (i := 5) (n := 11) (.slice RA rs.length rc) rfl (by kernel_rfl) (by kernel_rfl) (by kernel_rfl) (by kernel_rfl) (fun _ _ _ h => h) (by kernel_rfl) (fun W9 hW9 => ?_) HSS.out ?_
 ·exact kV (j := 1) hW9.1 _ rfl rfl rfl Tryz.underlying27 rfl
 refine kNj ?_
 refine zH (i := 6) (n := 10) (.pointer (some ⟨w.heap.size, 3, none⟩)) rfl (by kernel_rfl) (by kernel_rfl) (by kernel_rfl) (by kernel_rfl) (fun _ _ _ h => h) (by kernel_rfl) (fun W9 hW9 => ?_) HSS.out ?_
 ·go_simp
 refine kNj ?_
 refine zH (i := 7) (n := 9) (.int .i64 o.z) rfl (by kernel_rfl) (by kernel_rfl) (by kernel_rfl) (by kernel_rfl) (fun _ _ _ h => h) (by kernel_rfl) (fun W9 hW9 => ?_) HSS.out ?_
 ·exact kV (j := 3) hW9.2.toR _ rfl rfl rfl Tryz.underlying3 rfl
 refine kNj ?_
 refine zH (i := 8) (n := 8) (.pointer (some ⟨w.heap.size, 10, none⟩)) rfl (by kernel_rfl) (by kernel_rfl) (by kernel_rfl) (by kernel_rfl) (fun _ _ _ h => h) (by kernel_rfl) (fun W9 hW9 => ?_) HSS.out ?_
 ·go_simp
 refine kNj ?_
 refine zH (i := 9) (n := 7) (.slice o.S o.nx o.cx) rfl (by kernel_rfl) (by kernel_rfl) (by kernel_rfl) (by kernel_rfl) (fun _ _ _ h => h) (by kernel_rfl) (fun W9 hW9 => ?_) HSS.out ?_
 ·exact kV (j := 10) hW9.2.toR _ rfl rfl rfl Tryz.underlying23 rfl
 refine kNj ?_
 refine zH (i := 10) (n := 6) (.int .i64 (o.nx : Int)) rfl (by kernel_rfl) (by kernel_rfl) (by kernel_rfl) (by kernel_rfl) (fun _ _ _ h => h) (by kernel_rfl) (fun W9 hW9 => ?_) HSS.out ?_
 ·go_simp
 refine kNj ?_
 refine zH (i := 11) (n := 5) (.int .i64 (o.z + (o.nx : Int))) rfl (by kernel_rfl) (by kernel_rfl) (by kernel_rfl) (by kernel_rfl) (fun _ _ _ h => h) (by kernel_rfl) (fun W9 hW9 => ?_) HSS.out ?_
 ·have hw : wrap64 (o.z + (o.nx : Int)) = o.z + (o.nx : Int) := zGy _ (by have := HZB.out.1; omega) (by have := HZB.out.2; omega)
  go_simp
  exact (IntWalk.i64_left _).trans hw
 refine kNj ?_
 refine zH (i := 12) (n := 4) (.slice D (rs.length - (k + o.nx)) (rc - (k + o.nx))) rfl (by kernel_rfl) (by kernel_rfl) (by kernel_rfl) (by kernel_rfl) (fun _ _ _ h => h) (by kernel_rfl) (fun W9 hW9 => ?_) HSS.out ?_
 ·have hrunB := HRB.out; go_simp
 refine kNj ?_
 refine kJ (i := 13) (n := 3) (by kernel_rfl) rfl (fun K hK => ?_)
 refine zIq giG W4 rfl _ _ rfl W1.heap.size (.slice A1 k c1) k ((rs.take k).map (Value.int .i64)) rfl HR4.out D (rs.length - (k + o.nx)) (rc - (k + o.nx)) w.heap.size ((rs.drop (k + o.nx)).map (Value.int .i64)) rfl (by simp) (by rw [List.map_drop]; exact (HD.out _ _ _ HVL.out (by simp)).below (HBW.out.trans (HB4.out.mono (by omega)))) (kN7 _) (by unfold maxLen; omega) (by omega) (HB4.out.size) ?_
 intro A2 c2 W5 hown hgr hat
 have HOWN5 := hd hown
 have HGR := hd hgr
 have hs5 := hgr.size
 have HVB5 := hd (HVB4.out.grew hgr (fun e => by have := (HR4.out.lt _ e).1; omega))
 have HV5 := hd (show jR W5 w.heap.size o from (hgr.block _ HV4.out.lt (fun e => by have := (HR4.out.lt _ e.symm).1; omega)).trans HV4.out)
 clear hown hgr hat HSS
 have HSS := hd (And.intro HVB5.out HV5.out)
 refine kNj ?_
 refine hK _ _ (fun _ => HSS.out) ?_
 clear hK K
 refine kJ (i := 14) (n := 2) (by kernel_rfl) rfl (fun K hK => ?_)
 rw [if_pos (by kernel_rfl)]
 go_simp
 refine hK _ _ (fun _ => HSS.out) ?_
 clear hK K
 refine kJ (i := 15) (n := 1) (by kernel_rfl) rfl (fun K hK => ?_)
 rw [if_pos (by kernel_rfl)]
 go_simp
 refine hK _ _ (fun _ => HSS.out) ?_
 clear hK K
 refine kJ (i := 16) (n := 0) (by kernel_rfl) rfl (fun K hK => ?_)
 rw [if_pos (by kernel_rfl)]
 refine zY zCa HVB5.out _ _ rfl rfl 1 _ [.slice A2 (k + (rs.length - (k + o.nx))) c2] rfl rfl rfl rfl (zHt rfl) (Nat.le_of_ble_eq_true rfl) ?_
 intro W6 hv ho
 have HV6 := hd (show jT 59 W6 b #[.int .i64 lab, .slice A2 (k + (rs.length - (k + o.nx))) c2, .slice KA ks.length kc] from hv)
 have HO6 := hd ho
 clear hv ho
 refine hK _ _ (fun h => absurd h (by decide)) (zAl (by kernel_rfl) ?_)
 clear hK K HSS
 go_wp2_with fail
 go_end0
 have hFF := HF.out
 have hsub := HSUB.out
 have hs4 := HB4.out.size
 have hs6 := HO6.out.size
 have keep : ∀ q, q < w.heap.size -> q ≠ b -> W6.heap[q]? = w.heap[q]? := fun q hq hne => by
  rw [HO6.out.block q (by omega) hne, HGR.out.block q (by omega) (fun e => by have := (HR4.out.lt _ e.symm).1; omega), HB4.out.block q (by omega), HBW.out.block q hq]
 have hown := kNn (base' := w.heap.size) HOWN5.out (fun q hq => by have := (HOWN5.out.lt q hq).1; omega)
 have hv6 := HV6.out
 have e1 : k + (rs.length - (k + o.nx)) = (rs.take k ++ rs.drop (k + o.nx)).length := by simp; omega
 exact kQn
end Go.Proofs.YtmkciabefepelaaGreat
