/- Do on a labelled tree: a merge. -/
import Derived.Test.YtmkciabefepelaaGreatHDo2
import Derived.Test.YtmkciabefepelaaGreatJOForm
set_option maxRecDepth 4000
namespace Go.Proofs.YtmkciabefepelaaGreat
open Go.RowKit
theorem kNk {P Q : Prop} (k : Q) (h : Q -> P := by
 intro kk
 simp only [Act.put, List.getElem_toArray, List.getElem_cons_succ, List.getElem_cons_zero, List.setIfInBounds_toArray, List.set_cons_succ, List.set_cons_zero]
 exact kk) : P := h k
theorem kRm {w : World} {B : Nat} {A : Option Addr} {l : List Int} (h : IL w B A l) : VL w B A (l.map (Value.int .i64)) := fun hn => by
 obtain ⟨b, o, e, hb, hc⟩ := h (fun e => hn (by rw [e]; rfl))
 refine ⟨b, o, e, hb, fun k v hk => ?_⟩
 rw [List.getElem?_map] at hk
 have hl : k < l.length := Nat.lt_of_not_le fun h => by rw [List.getElem?_eq_none h] at hk; cases hk
 rw [List.getElem?_eq_getElem hl] at hk
 simp only [Option.map_some, Option.some.injEq] at hk
 rw [hc k hl, <- hk]
 unfold iAt
 simp [List.getD_eq_getElem?_getD, hl]
theorem kQo {w : World} {base n c : Nat} {A : Option Addr} {l : List Int} (h : w.ownsRow base 3 1 (.slice A n c) n (l.map (Value.int .i64))) : IL w w.heap.size A l := fun hn => by
 obtain ⟨A', c', e, _, _, hf⟩ := zC9 h
 injection e with e1 _ _
 subst e1
 have hc : ∀ k, k < l.length -> (l.map (Value.int .i64))[k]? = some (.int .i64 (iAt l k)) := fun k hk => by
  rw [List.getElem?_map, List.getElem?_eq_getElem hk]
  unfold iAt
  simp [List.getD_eq_getElem?_getD, hk]
 obtain ⟨g, rfl, _, hg, _, _⟩ := hf 0 _ (hc 0 (List.length_pos_iff.2 hn))
 refine ⟨g, 0, rfl, hg, fun k hk => ?_⟩
 obtain ⟨g', e, _, _, h4, _⟩ := hf k _ (hc k hk)
 injection e with e
 injection e with e
 subst e
 rw [Nat.zero_add]
 exact h4
theorem GhO.join {w w' : World} {b bk : Nat} {lab labk : Int} {rs rsk : List Int} {ks ksk : List NT} {R K Rk Kk R' K' : Value} {us usk : List Value} {Fs Fsk : Nat -> Nat -> Prop} {F Fk : Nat -> Prop} (h : GhO w b lab rs ks R K us Fs F) (hk : GhO w bk labk rsk ksk Rk Kk usk Fsk Fk) (hF : ∀ q, F q -> q < w.heap.size) (hFk : ∀ q, Fk q -> q < w.heap.size /\ ¬ F q)
  (hv : jT 59 w' b #[.int .i64 lab, R', K']) (hr : w'.ownsRow 0 3 1 R' (rs.length + rsk.length) (rs.map (Value.int .i64) ++ rsk.map (Value.int .i64))) (hK : w'.ownsRow 0 49 1 K' (ks.length + ksk.length) (us ++ usk))
  (hra : ∀ q, R'.ownBlock = some q -> R.ownBlock = some q ∨ w.heap.size <= q) (hka : ∀ q, K'.ownBlock = some q -> R'.ownBlock ≠ some q /\ (K.ownBlock = some q ∨ w.heap.size <= q)) (keep : ∀ q, q < w.heap.size -> q ≠ b -> R.ownBlock ≠ some q -> K.ownBlock ≠ some q -> w'.heap[q]? = w.heap[q]?) :
  Gh w' (.pointer (some ⟨b, 0, none⟩)) (.mk false [] (lab :: (rs ++ rsk)) (ks ++ ksk)) (fun q => F q ∨ Fk q ∨ (w.heap.size <= q /\ q < w'.heap.size)) := by
 have hbl := h.hb.lt
 have in1 : ∀ j q, Fs j q -> q < w.heap.size /\ q ≠ b /\ R'.ownBlock ≠ some q /\ K'.ownBlock ≠ some q := fun j q hq => by
  have hs := h.sub j q hq
  have hl := hF q hs.1
  refine ⟨hl, hs.2.1, fun e => ?_, fun e => ?_⟩
  ·rcases hra q e with e | e
   ·exact hs.2.2.1 e
   ·omega
  ·rcases (hka q e).2 with e | e
   ·exact hs.2.2.2 e
   ·omega
 have in2 : ∀ j q, Fsk j q -> q < w.heap.size /\ q ≠ b /\ R'.ownBlock ≠ some q /\ K'.ownBlock ≠ some q := fun j q hq => by
  have hs := hFk q (hk.sub j q hq).1
  refine ⟨hs.1, fun e => hs.2 (e ▸ h.hF), fun e => ?_, fun e => ?_⟩
  ·rcases hra q e with e | e
   ·exact hs.2 (h.fr q e).1
   ·omega
  ·rcases (hka q e).2 with e | e
   ·exact hs.2 (h.fk q e).1
   ·omega
 refine .mk _ b lab (rs ++ rsk) (ks ++ ksk) R' K' (us ++ usk) (fun j => if j < ks.length then Fs j else Fsk (j - ks.length)) hv (.inl h.hF) (by rw [List.length_append, List.map_append]; exact hr) (by rw [List.length_append]; exact hK) (by rw [List.length_append, List.length_append, h.hl, hk.hl])
  (fun q hq => ?_) (fun q hq => ?_) (fun j m u e1 e2 => ?_) (fun j q hq => ?_) (fun i j q hne h1 h2 => ?_)
 ·rcases hra q hq with e | e
  ·exact ⟨.inl (h.fr q e).1, (h.fr q e).2⟩
  ·exact ⟨.inr (.inr ⟨e, (hr.lt q hq).2⟩), by omega⟩
 ·rcases (hka q hq).2 with e | e
  ·exact ⟨.inl (h.fk q e).1, (h.fk q e).2.1, (hka q hq).1⟩
  ·exact ⟨.inr (.inr ⟨e, (hK.lt q hq).2⟩), by omega, (hka q hq).1⟩
 ·by_cases hj : j < ks.length
  ·rw [List.getElem?_append_left hj] at e1
   rw [List.getElem?_append_left (by rw [h.hl]; exact hj)] at e2
   rw [if_pos hj]
   exact (h.kids j m u e1 e2).frame fun q hq => keep q (in1 j q hq).1 (h.sub j q hq).2.1 (h.sub j q hq).2.2.1 (h.sub j q hq).2.2.2
  ·rw [List.getElem?_append_right (by omega)] at e1
   rw [List.getElem?_append_right (by rw [h.hl]; omega), h.hl] at e2
   rw [if_neg hj]
   exact (hk.kids _ m u e1 e2).frame fun q hq => by
    have hs := hFk q (hk.sub _ q hq).1
    exact keep q hs.1 (in2 _ q hq).2.1 (fun e => hs.2 (h.fr q e).1) (fun e => hs.2 (h.fk q e).1)
 ·by_cases hj : j < ks.length
  ·rw [if_pos hj] at hq
   exact ⟨.inl (h.sub j q hq).1, (in1 j q hq).2⟩
  ·rw [if_neg hj] at hq
   exact ⟨.inr (.inl (hk.sub _ q hq).1), (in2 _ q hq).2⟩
 ·by_cases h3 : i < ks.length
  ·rw [if_pos h3] at h1
   by_cases h4 : j < ks.length
   ·rw [if_pos h4] at h2; exact h.dis i j q hne h1 h2
   ·rw [if_neg h4] at h2; exact (hFk q (hk.sub _ q h2).1).2 (h.sub i q h1).1
  ·rw [if_neg h3] at h1
   by_cases h4 : j < ks.length
   ·rw [if_pos h4] at h2; exact (hFk q (hk.sub _ q h1).1).2 (h.sub j q h2).1
   ·rw [if_neg h4] at h2; exact hk.dis _ _ q (by omega) h1 h2
set_option maxRecDepth 100000 in
set_option maxHeartbeats 8000000 in
theorem kRw {w0 w : World} {v : Value} {g : NT} {F : Nat -> Prop} {o : OC} {a : OpP} {u : List Int} {i : Nat} {x _k : NT} {lab labk : Int} {rs rsk : List Int} {ks ksk : List NT} (hG : Gh w v g F) (hF : ∀ q, F q -> w0.heap.size <= q /\ q < w.heap.size) (ho : OkA w0 o a) (hw : Below w0.heap.size w0 w) (ta : zAf a) (hk : o.k = 3) (hpq : a.q = u ++ [((i + 1 : Nat) : Int)]) (hx : kB g u = some x) (hi : x.ks[i + 1]? = some (.mk false [] (labk :: rsk) ksk)) (hs : x.ks.length <= 500000) (hbk : kB (putT g u (jS x (i + 1) 1 [])) (u ++ [(i : Int)]) = some (.mk false [] (lab :: rs) ks)) (hsz : rs.length + rsk.length <= 500000 /\ ks.length + ksk.length <= 500000) : Calls Tryz.prog 24 #[v, .agg o.row] w (kQ1 F v (putT (putT g u (jS x (i + 1) 1 [])) (u ++ [(i : Int)]) (.mk false [] (lab :: (rs ++ rsk)) (ks ++ ksk))) w) := by
 first | have k1 : (o.k == 1) = true := by simp [hk] | have k1 : (o.k == 1) = false := by simp [hk]
 first | have k2 : (o.k == 2) = true := by simp [hk] | have k2 : (o.k == 2) = false := by simp [hk]
 first | have k3 : (o.k == 3) = true := by simp [hk] | have k3 : (o.k == 3) = false := by simp [hk]
 first | have k4 : (o.k == 4) = true := by simp [hk] | have k4 : (o.k == 4) = false := by simp [hk]
 first | have k5 : (o.k == 5) = true := by simp [hk] | have k5 : (o.k == 5) = false := by simp [hk]
 first | have k7 : (o.k == 7) = true := by simp [hk] | have k7 : (o.k == 7) = false := by simp [hk]
 first | have k8 : (o.k == 8) = true := by simp [hk] | have k8 : (o.k == 8) = false := by simp [hk]
 clear hk
 have hlq : o.lq = u.length + 1 := by have := ho.hlq; rw [hpq] at this; simp at this; omega
 have hql := ta.hq
 have hul : u.length + 1 <= 60 := by rw [hpq] at hql; simpa using hql
 have hin := ho.hiq
 rw [hpq] at hin
 obtain ⟨lu, hlu⟩ : ∃ l, u.length = l := ⟨_, rfl⟩
 rw [hlu] at hlq hul
 have HPQ := hd hpq
 have HX := hd hx
 have HI := hd hi
 have HS := hd hs
 have HBK := hd hbk
 have HSZ := hd hsz
 have HIN := hd hin
 have HLQ := hd hlq
 have HLU := hd hlu
 have HQL := hd hql
 clear hpq hx hi hs hbk hsz hin hlq hlu hql
 obtain ⟨W1, hW1⟩ : ∃ W, w.alloc (.cells o.row 35) = W := ⟨_, rfl⟩
 have hv : jR W1 w.heap.size o := hW1 ▸ jR.new w o
 have hbw : Below w.heap.size w W1 := hW1 ▸ (Below.refl _ _).alloc (Nat.le_refl _) _
 have hwl := hw.size
 have HV := hd hv
 have HB := hd (hw.trans (hbw.mono hwl))
 have HG := hd (hG.later (fun q h => (hF q h).2) hbw)
 have HF := hd (fun q (h : F q) => (⟨(hF q h).1, (hF q h).2, Nat.lt_of_lt_of_le (hF q h).2 hbw.size⟩ : w0.heap.size <= q /\ q < w.heap.size /\ q < W1.heap.size))
 have HT := hd (Tch.of_below (F := F) hbw)
 have HO := hd ho
 have HTA := hd ta
 have HW := hd hW1
 have hs1 : W1.heap.size = w.heap.size + 1 := by rw [<- hW1]; simp
 clear hG hF ho hw ta hv hbw hW1
 go_enter Tryz.func24, Tryz.ntmps24
 go_upto_region 1 with fail
 rw [HW.out]
 clear HW
 go_upto_region 10 with (first
  | ((with_reducible refine zC (ty := 3) (x := .tmp 17) ?_); refine zE HV.out (j := 0) (v := .int .i64 o.k) _ rfl rfl rfl rfl Tryz.underlying3 rfl ?_)
  | ((with_reducible refine zC (ty := 27) (x := .tmp 43) ?_); refine zE HV.out (j := 1) (v := .slice o.Q o.lq o.cq) _ rfl rfl rfl rfl Tryz.underlying27 rfl ?_)
  | (go_at_call 66; refine Calls.mono (kO4 HG.out (fun q h => (HF.out q h).2.2) (by rw [<- HPQ.out]; exact (HO.out.later HB.out).hasq HTA.out) HX.out HI.out HS.out) ?_; rintro e w2 ⟨p, Fk, F2, rfl, h1, h2, h3, h4, h5⟩; have hs2 := h5.size; have HPK := hd h1; have HG2 := hd h2; have HDJ := hd h3; have HCV := hd h4; have HT2 := hd h5; have HB2 := hd (HB.out.trans (h5.below (by omega) (fun q _ h => (HF.out q h).1))); have HV2 := hd (show jR w2 w.heap.size o from (h5.block _ HV.out.lt (fun e => by have := (HF.out _ e).2.1; omega)).trans HV.out); clear h1 h2 h3 h4 h5)
  | fail)
 obtain ⟨bk, hpk⟩ := HPK.out.ptr
 subst hpk
 have hqo := (HO.out.later HB2.out).hasq HTA.out
 have hqv := hqo.il
 have HQO := hd hqo
 clear hqo hqv
 go_upto_region 11 with (first
  | ((with_reducible refine zC (ty := 27) (x := .tmp 46) ?_); refine zE HV2.out (j := 1) (v := .slice o.Q o.lq o.cq) _ rfl rfl rfl rfl Tryz.underlying27 rfl ?_)
  | (at_builtin; refine kNt giG w2 rfl (.const (.slice none 0 0)) (.tmp 47) rfl w2.heap.size rfl o.Q o.lq o.cq w2.heap.size (a.q.map (Value.int .i64)) rfl (by have := HQO.out.len; simp; omega) (kRm HQO.out.il) (kN7 _) (by have := HLQ.out; unfold maxLen; omega) (by have := HLQ.out; omega) (Nat.le_refl _) ?_; intro A3 c3 w3 hown hb3 hat; have HOWN := hd hown; have HB3 := hd hb3; clear hown hb3 hat)
  | fail)
 rw [HLQ.out]
 obtain ⟨A3', c3', eA, hc3, hc3m, hfree3⟩ := zC9 HOWN.out
 injection eA with eA1 _ eA2
 subst eA1 eA2
 rw [HLQ.out] at hc3
 have hlen3 : (a.q.map (Value.int .i64))[lu]? = some (.int .i64 ((i + 1 : Nat) : Int)) := by rw [HPQ.out, List.map_append, List.getElem?_append_right (by simp [HLU.out]), List.length_map, HLU.out, Nat.sub_self]; rfl
 obtain ⟨g3, rfl, hg3b, hg3l, hcell3, hfz3⟩ := hfree3 lu _ hlen3
 have hown3 := HOWN.out
 rw [HLQ.out] at hown3
 obtain ⟨hst3, hgr3⟩ := hown3.stored lu (.int .i64 (i : Int))
 obtain ⟨W4, hW4⟩ : ∃ W, w3.setCell ⟨g3, lu, none⟩ (.int .i64 (i : Int)) = W := ⟨_, rfl⟩
 rw [hW4] at hst3 hgr3
 have HW4 := hd hW4
 have hi1 : (((i + 1 : Nat) : Int)) = (i : Int) + 1 := by omega
 rw [hi1] at hcell3
 have hile : (i : Int) <= 500000 := by have h1 := (List.getElem?_eq_some_iff.1 HI.out).1; have h2 := HS.out; omega
 have HB4 := hd (HB3.out.grown hgr3 HB3.out.size (fun j hj => by injection hj with hj; omega))
 have hset : (a.q.map (Value.int .i64)).set lu (.int .i64 (i : Int)) = (u ++ [(i : Int)]).map (Value.int .i64) := by rw [HPQ.out, List.map_append, List.set_append_right _ _ (by simp [HLU.out]), List.length_map, HLU.out, Nat.sub_self, List.map_append]; rfl
 rw [hset] at hst3
 have hqb : zKt W4 (some ⟨g3, 0, none⟩) (lu + 1) c3 (u ++ [(i : Int)]) := ⟨by simp [HLU.out], by omega, hc3, kQo hst3, fun j hj => by
  rw [List.length_append, List.length_singleton] at hj
  by_cases h : j < u.length
  ·have h9 := HIN.out j (by simp; omega)
   rw [kO3 h] at h9 ⊢
   exact h9
  ·obtain rfl : j = u.length := by omega
   rw [kPt]
   omega⟩
 have HQB := hd hqb
 clear hqb hset hst3 hgr3 hown3 hlen3 hfree3 hW4 hi1
 go_upto_region 12 with fail
 rw [HW4.out]
 clear hcell3 hfz3
 have hlt2 : ∀ q, F2 q -> q < w2.heap.size := fun q h => by
  rcases HCV.out q (.inr h) with h | h
  ·have := (HF.out q h).2.2; omega
  ·exact h.2
 have hlk2 : ∀ q, Fk q -> q < w2.heap.size := fun q h => by
  rcases HCV.out q (.inl h) with h | h
  ·have := (HF.out q h).2.2; omega
  ·exact h.2
 have hs4 := HB4.out.size
 have hK4 := HPK.out.later hlk2 HB4.out
 obtain ⟨pu, Fm, hpt, hGm, hsub, hrep⟩ := Gh.sub _ (HG2.out.later hlt2 HB4.out) HBK.out
 obtain ⟨b, lab', rs', ks', RA, rc, KA, kc, us, Fs, rfl, e0, hO⟩ := hGm.opened
 simp only [NT.mk.injEq, List.cons.injEq, true_and] at e0
 obtain ⟨⟨rfl, rfl⟩, rfl⟩ := e0
 obtain ⟨bk', labk', rsk', ksk', RAk, rck, KAk, kck, usk, Fsk, eV, e0, hOk⟩ := hK4.opened
 simp only [NT.mk.injEq, List.cons.injEq, true_and] at e0
 obtain ⟨⟨rfl, rfl⟩, rfl⟩ := e0
 injection eV with eV
 injection eV with eV
 injection eV with eV _ _
 subst eV
 have HPT := hd hpt
 have HOB := hd hO
 have HOK := hd hOk
 have HREP := hd hrep
 have HSUB := hd hsub
 have HL2 := hd hlt2
 have HLK := hd hlk2
 have HSZ1 := HSZ.out
 clear hK4 hGm hpt hO hOk hrep hsub hlt2 hlk2
 go_upto_region 13 with (first
  | (go_at_call 27; refine Calls.mono (kOd HPT.out HQB.out) ?_; rintro e wf ⟨rfl, hwf⟩; have hwf := hwf.symm; subst hwf)
  | fail)
 have hbF2 : F2 b := HSUB.out b HOB.out.hF
 have hbkF := HOK.out.hF
 have hbk : bk ≠ b := fun e => HDJ.out bk hbkF (e ▸ hbF2)
 have hRk : ∀ q, (Value.slice RA rs.length rc).ownBlock = some q -> ¬ Fk q := fun q h e => HDJ.out q e (HSUB.out q (HOB.out.fr q h).1)
 have hKk : ∀ q, (Value.slice KA ks.length kc).ownBlock = some q -> ¬ Fk q := fun q h e => HDJ.out q e (HSUB.out q (HOB.out.fk q h).1)
 have HRK := hd hRk
 have HKK := hd hKk
 clear hRk hKk
 obtain ⟨W5, hW5⟩ : ∃ W, W4.drew = W := ⟨_, rfl⟩
 have hp5 : W5.heap = W4.heap := by rw [<- hW5]; rfl
 have HP5 := hd hp5
 have ho5 : W5.os = W4.os /\ W5.tape = W4.tape /\ W5.output = W4.output := by rw [<- hW5]; exact ⟨rfl, rfl, rfl⟩
 have HOO5 := hd ho5
 have hs5 : W5.heap.size = W4.heap.size := by rw [hp5]
 have HVB5 := hd (show jT 59 W5 b #[.int .i64 lab, .slice RA rs.length rc, .slice KA ks.length kc] from by unfold jT; rw [hp5]; exact HOB.out.hb)
 have HVK5 := hd (show jT 59 W5 bk #[.int .i64 labk, .slice RAk rsk.length rck, .slice KAk ksk.length kck] from by unfold jT; rw [hp5]; exact HOK.out.hb)
 clear hp5 ho5
 refine jO (S := fun W' => jT 59 W' b #[.int .i64 lab, .slice RA rs.length rc, .slice KA ks.length kc] /\ jT 59 W' bk #[.int .i64 labk, .slice RAk rsk.length rck, .slice KAk ksk.length kck]) (z := fun j => j == 12) (by kernel_rfl) ?_
 rw [hW5]
 clear hW5
 have HSS := hd (And.intro HVB5.out HVK5.out)
 refine zH (i := 0) (n := 12) (.pointer (some ⟨b, 0, none⟩)) rfl (by kernel_rfl) (by kernel_rfl) (by kernel_rfl) (by kernel_rfl) (fun _ _ _ h => h) (by kernel_rfl) (fun W9 hW9 => ?_) HSS.out ?_
 ·go_simp
 simp only [Act.put, List.getElem_toArray, List.getElem_cons_zero, List.setIfInBounds_toArray, List.set_cons_succ, List.set_cons_zero]
 refine zH (i := 1) (n := 11) (.pointer (some ⟨b, 0, none⟩)) rfl (by kernel_rfl) (by kernel_rfl) (by kernel_rfl) (by kernel_rfl) (fun _ _ _ h => h) (by kernel_rfl) (fun W9 hW9 => ?_) HSS.out ?_
 ·go_simp
 refine kNk ?_
 refine zH (i := 2) (n := 10) (.pointer (some ⟨b, 0, none⟩)) rfl (by kernel_rfl) (by kernel_rfl) (by kernel_rfl) (by kernel_rfl) (fun _ _ _ h => h) (by kernel_rfl) (fun W9 hW9 => ?_) HSS.out ?_
 ·go_simp
 refine kNk ?_
 refine zH (i := 3) (n := 9) (.pointer (some ⟨b, 1, none⟩)) rfl (by kernel_rfl) (by kernel_rfl) (by kernel_rfl) (by kernel_rfl) (fun _ _ _ h => h) (by kernel_rfl) (fun W9 hW9 => ?_) HSS.out ?_
 ·go_simp
 refine kNk ?_
 refine zH (i := 4) (n := 8) (.slice RA rs.length rc) rfl (by kernel_rfl) (by kernel_rfl) (by kernel_rfl) (by kernel_rfl) (fun _ _ _ h => h) (by kernel_rfl) (fun W9 hW9 => ?_) HSS.out ?_
 ·exact kV (j := 1) hW9.1 _ rfl rfl rfl Tryz.underlying27 rfl
 refine kNk ?_
 refine zH (i := 5) (n := 7) (.pointer (some ⟨bk, 0, none⟩)) rfl (by kernel_rfl) (by kernel_rfl) (by kernel_rfl) (by kernel_rfl) (fun _ _ _ h => h) (by kernel_rfl) (fun W9 hW9 => ?_) HSS.out ?_
 ·go_simp
 refine kNk ?_
 refine zH (i := 6) (n := 6) (.pointer (some ⟨bk, 0, none⟩)) rfl (by kernel_rfl) (by kernel_rfl) (by kernel_rfl) (by kernel_rfl) (fun _ _ _ h => h) (by kernel_rfl) (fun W9 hW9 => ?_) HSS.out ?_
 ·go_simp
 refine kNk ?_
 refine zH (i := 7) (n := 5) (.pointer (some ⟨bk, 1, none⟩)) rfl (by kernel_rfl) (by kernel_rfl) (by kernel_rfl) (by kernel_rfl) (fun _ _ _ h => h) (by kernel_rfl) (fun W9 hW9 => ?_) HSS.out ?_
 ·go_simp
 refine kNk ?_
 refine zH (i := 8) (n := 4) (.slice RAk rsk.length rck) rfl (by kernel_rfl) (by kernel_rfl) (by kernel_rfl) (by kernel_rfl) (fun _ _ _ h => h) (by kernel_rfl) (fun W9 hW9 => ?_) HSS.out ?_
 ·exact kV (j := 1) hW9.2 _ rfl rfl rfl Tryz.underlying27 rfl
 refine kNk ?_
 refine kJ (i := 9) (n := 3) (by kernel_rfl) rfl (fun K hK => ?_)
 refine zIq giG W5 rfl _ _ rfl 0 (.slice RA rs.length rc) rs.length (rs.map (Value.int .i64)) rfl (kNl HOB.out.hr fun q _ => by rw [HP5.out]) RAk rsk.length rck W4.heap.size (rsk.map (Value.int .i64)) rfl (by simp) (hd (kRd HOK.out |> fun h => h.keep fun p hp => by unfold World.cell?; rw [HP5.out])).out (kN7 _) (by unfold maxLen; omega) (by omega) (Nat.zero_le _) ?_
 intro A5 c5 W6 hown hgr hat
 have HOWN6 := hd hown
 have HGR6 := hd hgr
 have HAT6 := hd hat
 have hs6 := hgr.size
 have HVB6 := hd (HVB5.out.grew hgr (fun e => (HOB.out.fr _ e).2 rfl))
 have HVK6 := hd (HVK5.out.grew hgr (fun e => HRK.out _ e hbkF))
 clear hown hgr hat HSS
 have HSS := hd (And.intro HVB6.out HVK6.out)
 refine kNk ?_
 refine hK _ _ (fun _ => HSS.out) ?_
 clear hK K
 refine kJ (i := 10) (n := 2) (by kernel_rfl) rfl (fun K hK => ?_)
 rw [if_pos (by kernel_rfl)]
 go_simp
 refine hK _ _ (fun _ => HSS.out) ?_
 clear hK K
 refine kJ (i := 11) (n := 1) (by kernel_rfl) rfl (fun K hK => ?_)
 rw [if_pos (by kernel_rfl)]
 go_simp
 refine hK _ _ (fun _ => HSS.out) ?_
 clear hK K
 refine kJ (i := 12) (n := 0) (by kernel_rfl) rfl (fun K hK => ?_)
 rw [if_pos (by kernel_rfl)]
 refine zY zCa HVB6.out _ _ rfl rfl 1 _ [.slice A5 (rs.length + rsk.length) c5] rfl rfl rfl rfl (zHt rfl) (Nat.le_of_ble_eq_true rfl) ?_
 intro W7 hv ho
 have HVB7 := hd (show jT 59 W7 b #[.int .i64 lab, .slice A5 (rs.length + rsk.length) c5, .slice KA ks.length kc] from hv)
 have HVK7 := hd (HVK6.out.off ho hbk)
 have HO7 := hd ho
 have hs7 := ho.size
 clear hv ho
 refine hK _ _ (fun h => absurd h (by decide)) (zAl (by kernel_rfl) ?_)
 clear hK K HSS
 go_upto_region 14 with fail
 obtain ⟨W8, hW8⟩ : ∃ W, W7.drew = W := ⟨_, rfl⟩
 have hp8 : W8.heap = W7.heap := by rw [<- hW8]; rfl
 have HP8 := hd hp8
 have ho8 : W8.os = W7.os /\ W8.tape = W7.tape /\ W8.output = W7.output := by rw [<- hW8]; exact ⟨rfl, rfl, rfl⟩
 have HOO8 := hd ho8
 have hs8 : W8.heap.size = W7.heap.size := by rw [hp8]
 have HVB8 := hd (show jT 59 W8 b #[.int .i64 lab, .slice A5 (rs.length + rsk.length) c5, .slice KA ks.length kc] from by unfold jT; rw [hp8]; exact HVB7.out)
 have HVK8 := hd (show jT 59 W8 bk #[.int .i64 labk, .slice RAk rsk.length rck, .slice KAk ksk.length kck] from by unfold jT; rw [hp8]; exact HVK7.out)
 -- what lay there, but this one's block and its runes' row
 have hkp8 : ∀ q, q < W4.heap.size -> q ≠ b -> (Value.slice RA rs.length rc).ownBlock ≠ some q -> W8.heap[q]? = W4.heap[q]? := fun q h1 h2 h3 => by
  rw [hp8, HO7.out.block q (by omega) h2, HGR6.out.block q (by omega) (fun e => h3 e.symm), HP5.out]
 have HKP8 := hd hkp8
 have HRKB := hd (kNl HOB.out.hk fun q hq => hkp8 q (HOB.out.hk.lt q hq).2 (HOB.out.fk q hq).2.1 (HOB.out.fk q hq).2.2)
 have HRKK := hd (kNl HOK.out.hk fun q hq => hkp8 q (HOK.out.hk.lt q hq).2 (fun e => HDJ.out q (HOK.out.fk q hq).1 (e ▸ hbF2)) (fun e => HRK.out q e (HOK.out.fk q hq).1))
 clear hp8 ho8 hkp8
 refine jO (S := fun W' => jT 59 W' b #[.int .i64 lab, .slice A5 (rs.length + rsk.length) c5, .slice KA ks.length kc] /\ jT 59 W' bk #[.int .i64 labk, .slice RAk rsk.length rck, .slice KAk ksk.length kck]) (z := fun j => j == 12) (by kernel_rfl) ?_
 rw [hW8]
 clear hW8
 have HSS := hd (And.intro HVB8.out HVK8.out)
 refine zH (i := 0) (n := 12) (.pointer (some ⟨b, 0, none⟩)) rfl (by kernel_rfl) (by kernel_rfl) (by kernel_rfl) (by kernel_rfl) (fun _ _ _ h => h) (by kernel_rfl) (fun W9 hW9 => ?_) HSS.out ?_
 ·go_simp
 simp only [Act.put, List.getElem_toArray, List.getElem_cons_zero, List.setIfInBounds_toArray, List.set_cons_succ, List.set_cons_zero]
 refine zH (i := 1) (n := 11) (.pointer (some ⟨b, 0, none⟩)) rfl (by kernel_rfl) (by kernel_rfl) (by kernel_rfl) (by kernel_rfl) (fun _ _ _ h => h) (by kernel_rfl) (fun W9 hW9 => ?_) HSS.out ?_
 ·go_simp
 refine kNk ?_
 refine zH (i := 2) (n := 10) (.pointer (some ⟨b, 0, none⟩)) rfl (by kernel_rfl) (by kernel_rfl) (by kernel_rfl) (by kernel_rfl) (fun _ _ _ h => h) (by kernel_rfl) (fun W9 hW9 => ?_) HSS.out ?_
 ·go_simp
 refine kNk ?_
 refine zH (i := 3) (n := 9) (.pointer (some ⟨b, 2, none⟩)) rfl (by kernel_rfl) (by kernel_rfl) (by kernel_rfl) (by kernel_rfl) (fun _ _ _ h => h) (by kernel_rfl) (fun W9 hW9 => ?_) HSS.out ?_
 ·go_simp
 refine kNk ?_
 refine zH (i := 4) (n := 8) (.slice KA ks.length kc) rfl (by kernel_rfl) (by kernel_rfl) (by kernel_rfl) (by kernel_rfl) (fun _ _ _ h => h) (by kernel_rfl) (fun W9 hW9 => ?_) HSS.out ?_
 ·exact kV (j := 2) hW9.1 _ rfl rfl rfl Tryz.underlying57 rfl
 refine kNk ?_
 refine zH (i := 5) (n := 7) (.pointer (some ⟨bk, 0, none⟩)) rfl (by kernel_rfl) (by kernel_rfl) (by kernel_rfl) (by kernel_rfl) (fun _ _ _ h => h) (by kernel_rfl) (fun W9 hW9 => ?_) HSS.out ?_
 ·go_simp
 refine kNk ?_
 refine zH (i := 6) (n := 6) (.pointer (some ⟨bk, 0, none⟩)) rfl (by kernel_rfl) (by kernel_rfl) (by kernel_rfl) (by kernel_rfl) (fun _ _ _ h => h) (by kernel_rfl) (fun W9 hW9 => ?_) HSS.out ?_
 ·go_simp
 refine kNk ?_
 refine zH (i := 7) (n := 5) (.pointer (some ⟨bk, 2, none⟩)) rfl (by kernel_rfl) (by kernel_rfl) (by kernel_rfl) (by kernel_rfl) (fun _ _ _ h => h) (by kernel_rfl) (fun W9 hW9 => ?_) HSS.out ?_
 ·go_simp
 refine kNk ?_
 refine zH (i := 8) (n := 4) (.slice KAk ksk.length kck) rfl (by kernel_rfl) (by kernel_rfl) (by kernel_rfl) (by kernel_rfl) (fun _ _ _ h => h) (by kernel_rfl) (fun W9 hW9 => ?_) HSS.out ?_
 ·exact kV (j := 2) hW9.2 _ rfl rfl rfl Tryz.underlying57 rfl
 refine kNk ?_
 refine kJ (i := 9) (n := 3) (by kernel_rfl) rfl (fun K hK => ?_)
 refine zIq gpG W8 rfl _ _ rfl 0 (.slice KA ks.length kc) ks.length us rfl HRKB.out KAk ksk.length kck W8.heap.size usk rfl (by have := HOK.out.hl; omega) (VP.vl (kRj HRKK.out fun g hg => (HRKK.out.lt g hg).2) (fun _ h => h)) (kPs HOK.out) (by unfold maxLen; omega) (by omega) (Nat.zero_le _) ?_
 intro A9 c9 W9 hown hgr hat
 have HOWN9 := hd hown
 have HGR9 := hd hgr
 have HAT9 := hd hat
 have hs9 := hgr.size
 have HVB9 := hd (HVB8.out.grew hgr (fun e => (HOB.out.fk _ e).2.1 rfl))
 have HVK9 := hd (HVK8.out.grew hgr (fun e => HKK.out _ e hbkF))
 clear hown hgr hat HSS
 have HSS := hd (And.intro HVB9.out HVK9.out)
 refine kNk ?_
 refine hK _ _ (fun _ => HSS.out) ?_
 clear hK K
 refine kJ (i := 10) (n := 2) (by kernel_rfl) rfl (fun K hK => ?_)
 rw [if_pos (by kernel_rfl)]
 go_simp
 refine hK _ _ (fun _ => HSS.out) ?_
 clear hK K
 refine kJ (i := 11) (n := 1) (by kernel_rfl) rfl (fun K hK => ?_)
 rw [if_pos (by kernel_rfl)]
 go_simp
 refine hK _ _ (fun _ => HSS.out) ?_
 clear hK K
 refine kJ (i := 12) (n := 0) (by kernel_rfl) rfl (fun K hK => ?_)
 rw [if_pos (by kernel_rfl)]
 refine zY kP7 HVB9.out _ _ rfl rfl 2 _ [.slice A9 (ks.length + ksk.length) c9] rfl rfl rfl rfl (zHt rfl) (Nat.le_of_ble_eq_true rfl) ?_
 intro W10 hv ho
 have HVB10 := hd (show jT 59 W10 b #[.int .i64 lab, .slice A5 (rs.length + rsk.length) c5, .slice A9 (ks.length + ksk.length) c9] from hv)
 have HO10 := hd ho
 have hs10 := ho.size
 clear hv ho
 refine hK _ _ (fun h => absurd h (by decide)) (zAl (by kernel_rfl) ?_)
 clear hK K HSS
 go_wp2_with fail
 go_end0
 have hRl := HOB.out.hr.lt
 have hKl := HOB.out.hk.lt
 have hR6 := HOWN6.out.lt
 have keep : ∀ q, q < W4.heap.size -> q ≠ b -> (Value.slice RA rs.length rc).ownBlock ≠ some q -> (Value.slice KA ks.length kc).ownBlock ≠ some q -> W10.heap[q]? = W4.heap[q]? := fun q h1 h2 h3 h4 => by
  rw [HO10.out.block q (by omega) h2, HGR9.out.block q (by omega) (fun e => h4 e.symm), HKP8.out q h1 h2 h3]
 have hra : ∀ q, (Value.slice A5 (rs.length + rsk.length) c5).ownBlock = some q -> (Value.slice RA rs.length rc).ownBlock = some q ∨ W4.heap.size <= q := fun q hq => by
  rcases HAT6.out with e | ⟨q', e, h⟩
  ·exact .inl (e ▸ hq)
  ·rw [e] at hq; injection hq with hq; exact .inr (by omega)
 have hRb : ∀ q, (Value.slice A5 (rs.length + rsk.length) c5).ownBlock = some q -> q ≠ b /\ (Value.slice KA ks.length kc).ownBlock ≠ some q := fun q hq => by
  rcases hra q hq with e | e
  ·exact ⟨(HOB.out.fr q e).2, fun h => (HOB.out.fk q h).2.2 e⟩
  ·exact ⟨by have := HOB.out.hb.lt; omega, fun h => by have := (hKl q h).2; omega⟩
 have hr10 : W10.ownsRow 0 3 1 (.slice A5 (rs.length + rsk.length) c5) (rs.length + rsk.length) (rs.map (Value.int .i64) ++ rsk.map (Value.int .i64)) := kNl HOWN6.out fun q hq => by
  rw [HO10.out.block q (by have := (hR6 q hq).2; omega) (hRb q hq).1, HGR9.out.block q (by have := (hR6 q hq).2; omega) (fun e => (hRb q hq).2 e.symm), HP8.out, HO7.out.block q (hR6 q hq).2 (hRb q hq).1]
 have hka : ∀ q, (Value.slice A9 (ks.length + ksk.length) c9).ownBlock = some q -> (Value.slice A5 (rs.length + rsk.length) c5).ownBlock ≠ some q /\ ((Value.slice KA ks.length kc).ownBlock = some q ∨ W4.heap.size <= q) := fun q hq => by
  rcases HAT9.out with e | ⟨q', e, h⟩
  ·rw [e] at hq; exact ⟨fun h => (hRb q h).2 hq, .inl hq⟩
  ·rw [e] at hq; injection hq with hq; exact ⟨fun h => by have := (hR6 q h).2; omega, .inr (by omega)⟩
 have hk10 := kN5 HOWN9.out HO10.out (fun e => by
  rcases (hka _ e).2 with h | h
  ·exact (HOB.out.fk _ h).2.1 rfl
  ·have := HOB.out.hb.lt; omega)
 have G1 := HOB.out.join HOK.out (fun q h => Nat.lt_of_lt_of_le (HL2.out q (HSUB.out q h)) hs4) (fun q h => ⟨Nat.lt_of_lt_of_le (HLK.out q h) hs4, fun e => HDJ.out q h (HSUB.out q e)⟩) HVB10.out hr10 hk10 hra hka keep
 have G2 := HREP.out W10 _ _ G1 (fun q h1 h2 => keep q (Nat.lt_of_lt_of_le (HL2.out q h1) hs4) (fun e => h2 (e ▸ HOB.out.hF)) (fun e => h2 (HOB.out.fr q e).1) (fun e => h2 (HOB.out.fk q e).1)) (fun q h1 h2 h3 => by
  rcases h1 with h1 | h1 | h1
  ·exact h2 h1
  ·exact HDJ.out q h1 h3
  ·have := HL2.out q h3; omega)
 have hcv : ∀ q, Fk q ∨ F2 q -> F q ∨ (w.heap.size <= q /\ q < W10.heap.size) := fun q h => by
  rcases HCV.out q h with h | h
  ·exact .inl h
  ·exact .inr (by omega)
 have T4 : Tch F2 W4 W10 := ⟨by rw [HO10.out.os, HGR9.out.os, HOO8.out.1, HO7.out.os, HGR6.out.os, HOO5.out.1], by rw [HO10.out.tape, HGR9.out.tape, HOO8.out.2.1, HO7.out.tape, HGR6.out.tape, HOO5.out.2.1], by rw [HO10.out.output, HGR9.out.output, HOO8.out.2.2, HO7.out.output, HGR6.out.output, HOO5.out.2.2], by omega,
  fun q h1 h2 => keep q h1 (fun e => h2 (e ▸ hbF2)) (fun e => h2 (HSUB.out q (HOB.out.fr q e).1)) (fun e => h2 (HSUB.out q (HOB.out.fk q e).1))⟩
 refine ⟨_, rfl, G2, fun q h => ?_, ((HT.out.trans HT2.out fun q _ h => h).trans (Tch.of_below (F := F) HB4.out) fun q _ h => h).trans T4 fun q hq h => ?_⟩
 ·rcases h with h | h | h | h
  ·exact hcv q (.inr h.1)
  ·exact hcv q (.inr (HSUB.out q h))
  ·exact hcv q (.inl h)
  ·exact .inr (by omega)
 ·rcases HCV.out q (.inr h) with h | h
  ·exact h
  ·omega
theorem kNm {x m : NT} (h : kOb x m = true) : x.tx.length = m.tx.length + 1 /\ x.ks.length = m.ks.length /\ shpK x.ks m.ks = true := by
 cases x; cases m
 rw [kOb, Bool.and_eq_true, decide_eq_true_iff] at h
 exact ⟨h.1, ((kOo _ _).1 h.2).1, h.2⟩
theorem kPc {a c : Bool} {p q : List Pr} {gx tx : List Int} {gk ks : List NT} (h : gx.length = tx.length + 1) (hk : shpK gk ks = true) : kOb (.mk a p gx gk) (.mk c q tx ks) = true := by
 rw [kOb, Bool.and_eq_true, decide_eq_true_iff]
 exact ⟨h, hk⟩
theorem kPx {x m : NT} (h : x.tx.length = m.tx.length + 1) (hk : shpK x.ks m.ks = true) : kOb x m = true := by
 cases x; cases m
 exact kPc h hk
mutual
theorem kPr : ∀ (n : NT) (f : Int), kOb (kQ4 n f) n = true
 | .mk _ _ tx ks, f => kPc (by rw [List.length_cons, kN4]) (kPy ks _)
theorem kPy : ∀ (ks : List NT) (f : Int), shpK (kPq ks f) ks = true
 | [], _ => by simp only [kPq, shpK]
 | k :: r, f => by simp only [kPq, shpK, kPr k f, kPy r, Bool.and_true]
end
mutual
theorem kRc : ∀ (g n : NT), kOb g n = true -> kOb (fgT g) n = true
 | .mk _ _ gx gk, .mk _ _ tx ks => fun h => by
  rw [kOb, Bool.and_eq_true, decide_eq_true_iff] at h
  exact kPc (by rw [List.length_replicate]; exact h.1) (kQp gk ks h.2)
theorem kQp : ∀ (gk ks : List NT), shpK gk ks = true -> shpK (fgK gk) ks = true
 | [], [] => fun _ => by simp only [fgK, shpK]
 | g :: gr, k :: r => fun h => by
  rw [shpK, Bool.and_eq_true] at h
  simp only [fgK, shpK, kRc g k h.1, kQp gr r h.2, Bool.and_true]
 | [], _ :: _ => fun h => by simp [shpK] at h
 | _ :: _, [] => fun h => by simp [shpK] at h
end
theorem kOl : ∀ (a b c d : List NT), shpK a c = true -> shpK b d = true -> shpK (a ++ b) (c ++ d) = true
 | [], b, [], d, _, h2 => h2
 | g :: gr, b, k :: r, d, h1, h2 => by
  rw [shpK, Bool.and_eq_true] at h1
  simp only [List.cons_append, shpK, h1.1, kOl gr b r d h1.2 h2, Bool.and_true]
 | [], _, _ :: _, _, h1, _ => by simp [shpK] at h1
 | _ :: _, _, [], _, h1, _ => by simp [shpK] at h1
theorem kPd : ∀ (i : Nat) (a c : List NT), shpK a c = true -> shpK (a.take i) (c.take i) = true
 | 0, _, _, _ => by simp [shpK]
 | _ + 1, [], [], _ => by simp [shpK]
 | i + 1, g :: gr, k :: r, h => by
  rw [shpK, Bool.and_eq_true] at h
  simp only [List.take_succ_cons, shpK, h.1, kPd i gr r h.2, Bool.and_true]
 | _ + 1, [], _ :: _, h => by simp [shpK] at h
 | _ + 1, _ :: _, [], h => by simp [shpK] at h
theorem kPe : ∀ (i : Nat) (a c : List NT), shpK a c = true -> shpK (a.drop i) (c.drop i) = true
 | 0, _, _, h => h
 | _ + 1, [], [], _ => by simp [shpK]
 | i + 1, g :: gr, k :: r, h => by
  rw [shpK, Bool.and_eq_true] at h
  exact kPe i gr r h.2
 | _ + 1, [], _ :: _, h => by simp [shpK] at h
 | _ + 1, _ :: _, [], h => by simp [shpK] at h
theorem kOi {a c : List NT} {j : Nat} {k : NT} (h : shpK a c = true) (hk : c[j]? = some k) : ∃ g, a[j]? = some g /\ kOb g k = true := by
 have h1 := (kOo _ _).1 h
 have hj := (List.getElem?_eq_some_iff.1 hk).1
 obtain ⟨g, hg⟩ : ∃ g, a[j]? = some g := ⟨_, List.getElem?_eq_getElem (by omega)⟩
 exact ⟨g, hg, h1.2 j g k hg hk⟩
theorem kQq {a c go os : List NT} (h : shpK a c = true) (ho : shpK go os = true) (i m : Nat) : shpK (spl a i m go) (spl c i m os) = true :=
 kOl _ _ _ _ (kOl _ _ _ _ (kPd i a c h) ho) (kPe (i + m) a c h)
theorem kOc {x k : NT} {go os : List NT} (h : kOb x k = true) (ho : shpK go os = true) (i m : Nat) : kOb (jS x i m go) (jS k i m os) = true :=
 kPc (kNm h).1 (kQq (kNm h).2.2 ho i m)
theorem kO2 {g k : NT} (h : kOb g k = true) : shpK [g] [k] = true := by simp only [shpK, h, Bool.and_true]
theorem kPz : shpK [] [] = true := by simp only [shpK]
theorem kNy : ∀ (p : List Int) (g n m : NT), kOb g n = true -> kB n p = some m -> ∃ x, kB g p = some x /\ kOb x m = true
 | [], g, n, m => fun h hg => by
  injection hg with hg
  subst hg
  exact ⟨g, rfl, h⟩
 | i :: p, g, n, m => fun h hg => by
  rw [zR] at hg
  cases hk : zBh n i with
  | none => rw [hk] at hg; cases hg
  | some k =>
   rw [hk] at hg
   obtain ⟨j, rfl, hj⟩ := zDa hk
   obtain ⟨y, hy, hyk⟩ := kOi (kNm h).2.2 hj
   obtain ⟨x, hx, hxm⟩ := kNy p y k m hyk hg
   exact ⟨x, by rw [zR, zA9, hy]; exact hx, hxm⟩
theorem kNz : ∀ (p : List Int) (g n m x' m' : NT), kOb g n = true -> kB n p = some m -> kOb x' m' = true -> kOb (putT g p x') (putT n p m') = true
 | [], g, n, m, x', m' => fun _ _ hx => hx
 | i :: p, g, n, m, x', m' => fun h hg hx => by
  rw [zR] at hg
  cases hk : zBh n i with
  | none => rw [hk] at hg; cases hg
  | some k =>
   rw [hk] at hg
   obtain ⟨j, rfl, hj⟩ := zDa hk
   obtain ⟨y, hy, hyk⟩ := kOi (kNm h).2.2 hj
   have hl := (kNm h).2.1
   have hlt := (List.getElem?_eq_some_iff.1 hj).1
   rw [kPw hy, kPw hj, <- zI0 (by omega), <- zI0 (by omega)]
   exact kPc (kNm h).1 (kQq (kNm h).2.2 (kO2 (kNz p y k m x' m' hyk hg hx)) j 1)
theorem kQr {p : List Int} {g n m m' : NT} (h : kOb g n = true) (hg : kB n p = some m) (ht : m'.tx.length = m.tx.length) (hk : m'.ks = m.ks) : kOb g (putT n p m') = true := by
 obtain ⟨x, hx, hxm⟩ := kNy p g n m h hg
 have h1 := kNz p g n m x m' h hg (by
  obtain ⟨e1, e2, e3⟩ := kNm hxm
  exact kPx (by rw [ht]; exact e1) (by rw [hk]; exact e3))
 rw [zG1 g p x hx] at h1
 exact h1
theorem Gh.form {w : World} {v : Value} {g m : NT} {F : Nat -> Prop} {p : List Int} (h : Gh w v g F) (hg : kB g p = some m) : ∃ lab rs ks, m = .mk false [] (lab :: rs) ks := by
 obtain ⟨u, Fm, _, h1, _⟩ := Gh.sub p h hg
 cases h1 with
 | mk _ b lab rs ks => exact ⟨lab, rs, ks, rfl⟩
theorem kNu {n x : NT} {u : List Int} {m : Nat} (h : sizeT n <= m) (hx : kB n u = some x) : x.ks.length <= m /\ x.tx.length <= m /\ x.tx.length + x.ks.length <= m := by
 have h1 := zGh u n x hx
 have h3 := kOe x.ks
 rw [jC x] at h1
 omega
theorem kRe {n x b m : NT} {u : List Int} {i : Nat} (hg : kB n u = some x) (hi : i + 1 < x.ks.length) (hb : x.ks[i]? = some b) : kB (putT n u (jS x (i + 1) 1 [])) (u ++ [(i : Int)]) = some b /\ putT (putT n u (jS x (i + 1) 1 [])) (u ++ [(i : Int)]) m = putT n u (jS x i 2 [m]) := by
 have hg2 := jX n u (jS x (i + 1) 1 []) x hg
 have hsk : (jS x (i + 1) 1 []).ks[i]? = some b := by
  show (spl x.ks (i + 1) 1 [])[i]? = _
  rw [zBp (by omega) (by omega), hb]
 refine ⟨?_, ?_⟩
 ·rw [jJ, hg2]
  show kB (jS x (i + 1) 1 []) [(i : Int)] = _
  rw [zR, zA9, hsk]; rfl
 ·rw [zEz _ _ _ _ _ hg2, zEo _ _ _ _ _ hg, zSg hsk]
  congr 1
  show NT.mk _ _ _ (spl (spl x.ks (i + 1) 1 []) i 1 [_]) = NT.mk _ _ _ _
  rw [zX1 (by omega)]
  rfl
theorem kRf {r s l : List Int} {p : Int} (h : zFx r p s = (l, 0)) : ∃ k : Nat, p = k /\ k <= r.length := by
 unfold zFx at h
 split at h
 ·split at h
  ·exact ⟨p.toNat, by omega, by omega⟩
  ·cases h
 ·cases h
theorem kRg {r s l : List Int} {p : Int} (h : zFe r p s = (l, 0)) : ∃ k : Nat, p = k /\ k + s.length <= r.length := by
 unfold zFe at h
 split at h
 ·split at h
  ·rename_i h1
   split at h
   ·rename_i h2
    have := congrArg List.length h2
    rw [List.length_take, List.length_drop] at this
    exact ⟨p.toNat, by omega, by omega⟩
   ·cases h
  ·cases h
 ·cases h
end Go.Proofs.YtmkciabefepelaaGreat
