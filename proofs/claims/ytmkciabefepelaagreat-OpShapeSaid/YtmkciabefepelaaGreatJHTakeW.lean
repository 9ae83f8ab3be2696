/- take, put: the walks. -/
import Derived.Test.YtmkciabefepelaaGreatJHFind
set_option maxRecDepth 4000
set_option maxHeartbeats 8000000
namespace Go.Proofs.YtmkciabefepelaaGreat
open Go.RowKit
def kRy (F : Nat -> Prop) (v : Value) (n k : NT) (w : World) (e : Ending) (w' : World) : Prop := ∃ p Fk F', e = .returned p /\ Gh w' p k Fk /\ Gh w' v n F' /\ (∀ q, Fk q -> ¬ F' q) /\ (∀ q, Fk q ∨ F' q -> F q ∨ (w.heap.size <= q /\ q < w'.heap.size)) /\ Tch F w w'
def kRn (F Fk : Nat -> Prop) (v : Value) (n : NT) (w : World) (e : Ending) (w' : World) : Prop := ∃ F', e = .returned (.tuple #[]) /\ Gh w' v n F' /\ (∀ q, F' q -> F q ∨ Fk q ∨ (w.heap.size <= q /\ q < w'.heap.size)) /\ Tch F w w'
theorem kRo {w : World} {b : Nat} {lab : Int} {rs : List Int} {ks : List NT} {R : Value} {A : Option Addr} {c : Nat} {us : List Value} {Fs : Nat -> Nat -> Prop} {F : Nat -> Prop} (h : GhO w b lab rs ks R (.slice A ks.length c) us Fs F) : VL w w.heap.size A us := VP.vl (kRj h.hk fun g hg => (h.hk.lt g hg).2) (fun _ h => h)
theorem kPs {w : World} {b : Nat} {lab : Int} {rs : List Int} {ks : List NT} {R K : Value} {us : List Value} {Fs : Nat -> Nat -> Prop} {F : Nat -> Prop} (h : GhO w b lab rs ks R K us Fs F) : ∀ u ∈ us, u.oneCell' = true := fun u hu => by
 obtain ⟨j, hj, rfl⟩ := List.mem_iff_getElem.1 hu
 exact (h.kids j _ _ (List.getElem?_eq_getElem (by rw [<- h.hl]; exact hj)) (List.getElem?_eq_getElem hj)).one
theorem kPt (u : List Int) (i : Int) : iAt (u ++ [i]) u.length = i := by unfold iAt; simp [List.getD_eq_getElem?_getD]
set_option maxRecDepth 100000 in
theorem kO4 {w : World} {v : Value} {n x k : NT} {F : Nat -> Prop} {u : List Int} {A : Option Addr} {lq cq i : Nat} (hg : Gh w v n F) (hF : ∀ q, F q -> q < w.heap.size) (hq : zKt w A lq cq (u ++ [(i : Int)])) (hx : kB n u = some x) (hi : x.ks[i]? = some k) (hs : x.ks.length <= 500000) :
  Calls Tryz.prog 66 #[v, .slice A lq cq] w (kRy F v (putT n u (jS x i 1 [])) k w) := by
 obtain ⟨pu, Fm, hpt, hGm, hsub, hrep⟩ := Gh.sub u hg hx
 obtain ⟨b, lab, rs, ks, RA, rc, KA, kc, us, Fs, rfl, rfl, hO⟩ := hGm.opened
 have hi' : ks[i]? = some k := hi
 have hik : i < ks.length := (List.getElem?_eq_some_iff.1 hi').1
 have hsl : ks.length <= 500000 := hs
 obtain ⟨pk, hpk⟩ : ∃ p, us[i]? = some p := ⟨_, List.getElem?_eq_getElem (by rw [hO.hl]; exact hik)⟩
 have hGk := hO.kids i k pk hi' hpk
 obtain ⟨bk, rfl⟩ := hGk.ptr
 obtain ⟨KA', kc', eK, hkc, _, hfree⟩ := zC9 hO.hk
 injection eK with eK1 _ eK2
 subst eK1 eK2
 obtain ⟨g, rfl, _, _, hcell, _⟩ := hfree i _ hpk
 have hvl := kRo hO
 have hones := kPs hO
 have hul := hO.hl
 obtain ⟨D, hD, hrunB0⟩ := kP4 (some ⟨g, 0, none⟩) ks.length kc (i + 1) (by omega) hkc
 have hrunA := kPf (some ⟨g, 0, none⟩) ks.length kc i (by omega)
 have hrunB : ∀ W : World, (Instr.slice 57 (.slice (some ⟨g, 0, none⟩) ks.length kc) (some (.int .i64 ((i : Int) + 1))) none none).run Tryz.prog W = .ok (.slice D (ks.length - (i + 1)) (kc - (i + 1))) W := by
  rw [show ((i : Int) + 1) = ((i + 1 : Nat) : Int) by omega]; exact hrunB0
 obtain ⟨ul, hul0⟩ : ∃ l, u.length = l := ⟨_, rfl⟩
 have hlq := hq.len
 rw [List.length_append, List.length_singleton, hul0] at hlq
 subst hlq
 have hqu := hq.up
 have hle := hq.le
 have hcap := hq.cap
 obtain ⟨b0, o0, rfl, hb0, hc⟩ := hq.il.at_ (k := ul) (by rw [List.length_append, hul0]; simp)
 rw [<- hul0, kPt, hul0] at hc
 have hbl := hO.hb.lt
 have c2 := hO.hb.cell 2 (.slice (some ⟨g, 0, none⟩) ks.length kc) rfl
 have HPT := hd hpt
 have HQU := hd hqu
 have HO := hd hO
 have HVL := hd hvl
 have HONE := hd hones
 have HD := hd hD
 have HREP := hd hrep
 have HGK := hd hGk
 have HSUB := hd hsub
 have HFF := hd hF
 have HUL := hd hul
 have HIK := hd hi'
 have HPK := hd hpk
 clear hpt hqu hq hO hvl hones hD hrep hGk hsub hF hfree hg hx hi hi' hpk hrunB0 hGm hs hul
 go_enter Tryz.func66, Tryz.ntmps66
 go_wp2_with (first
  | (go_at_call 27; refine Calls.mono (kOd HPT.out HQU.out) ?_; rintro e w1 ⟨rfl, hw1⟩; have hw1 := hw1.symm; subst hw1)
  | (at_builtin; refine kNt gpG w rfl (.tmp 29) (.tmp 35) rfl w.heap.size rfl (some ⟨g, 0, none⟩) i kc w.heap.size (us.take i) rfl (by have := HUL.out; simp; omega) (HVL.out.take i) (fun u hu => HONE.out u (List.mem_of_mem_take hu)) (by unfold maxLen; omega) (by omega) (Nat.le_refl _) ?_; intro A1 c1 w2 hown hb2 hat; have HOWN := hd hown; have HB2 := hd hb2; have HV := hd (HO.out.hb.keep hb2); have c2 := HV.out.cell 2 (.slice (some ⟨g, 0, none⟩) ks.length kc) rfl; clear hown hb2 hat)
  | (at_builtin; refine zK7 gpG w2 rfl (.tmp 38) (.tmp 45) rfl w.heap.size (.slice A1 i c1) i (us.take i) rfl HOWN.out D (ks.length - (i + 1)) (kc - (i + 1)) w.heap.size (us.drop (i + 1)) rfl (by have := HUL.out; simp; omega) ((HD.out _ _ _ HVL.out HUL.out).below HB2.out) (fun u hu => HONE.out u (List.mem_of_mem_drop hu)) (by unfold maxLen; omega) (by omega) HB2.out.size ?_; intro A2 c3 w3 hown hgr hat; have HOWN2 := hd hown; have HGR := hd hgr; have HV := hd (HV.out.grew hgr (fun e => by have := (HOWN.out.lt _ e).1; omega)); clear hown hgr hat c2)
  | ((with_reducible refine zF (ty := 57) (x := .tmp 48) ?_); refine zFd kP7 (r' := #[.int .i64 lab, .slice RA rs.length rc, .slice A2 (i + (ks.length - (i + 1))) c3]) HV.out _ _ rfl rfl rfl 2 (.slice A2 (i + (ks.length - (i + 1))) c3) rfl rfl rfl rfl (by show (2 : Nat) < 3; decide) rfl ?_; intro W5 hv ho; have HV5 := hd hv; have HO5 := hd ho; clear hv ho))
 go_ret
 have hFF := HFF.out
 have hsub := HSUB.out
 have hs2 := HB2.out.size
 have hs3 := HGR.out.size
 have hs5 := HO5.out.size
 have e1 : i + (ks.length - (i + 1)) = ks.length - 1 := by omega
 have hv5 := HV5.out
 have hown := HOWN2.out
 rw [e1] at hv5 hown
 have keep : ∀ q, q < w.heap.size -> q ≠ b -> W5.heap[q]? = w.heap[q]? := fun q hq hne => by
  rw [HO5.out.block q (by omega) hne, HGR.out.block q (by omega) (fun e => by have := (HOWN.out.lt _ e.symm).1; omega), HB2.out.block q hq]
 have G1 := HO.out.took hik (fun q h => hFF q (hsub q h)) hv5 keep (kN5 hown HO5.out fun e => by have := (hown.lt _ e).1; omega)
 have hbF : F b := hsub b HO.out.hF
 have G2 := HREP.out W5 _ _ G1 (fun q h1 h2 => keep q (hFF q h1) fun e => h2 (e ▸ HO.out.hF)) (fun q h1 h2 h3 => by
  rcases h1 with h1 | h1
  ·exact h2 h1.1
  ·have := hFF q h3; omega)
 have e2 : jS (.mk false [] (lab :: rs) ks) i 1 [] = .mk false [] (lab :: rs) (ks.take i ++ ks.drop (i + 1)) := by
  show NT.mk false [] (lab :: rs) (spl ks i 1 []) = _
  unfold spl
  rw [List.append_nil]
 refine ⟨_, Fs i, _, rfl, HGK.out.frame fun q h => keep q (hFF q (hsub q (HO.out.sub i q h).1)) (HO.out.sub i q h).2.1, by rw [e2]; exact G2, fun q h1 h2 => ?_, fun q h1 => ?_, ?_⟩
 ·rcases h2 with h2 | h2 | h2
  ·exact h2.2 (HO.out.sub i q h1).1
  ·exact h2.2 h1
  ·have := hFF q (hsub q (HO.out.sub i q h1).1); omega
 ·rcases h1 with h1 | h1 | h1 | h1
  ·exact .inl (hsub q (HO.out.sub i q h1).1)
  ·exact .inl h1.1
  ·exact .inl (hsub q h1.1)
  ·exact .inr h1
 ·refine (Tch.of_below HB2.out).trans (Tch.trans (F := fun q => w.heap.size <= q ∨ F q) ⟨HGR.out.os, HGR.out.tape, HGR.out.output, hs3, fun q hq hn => HGR.out.block q hq fun e => hn (.inl (HOWN.out.lt _ e.symm).1)⟩ (Tch.of_off HO5.out (F := F) hbF) (fun q _ h => .inr h)) (fun q hq h => ?_)
  rcases h with h | h
  ·omega
  ·exact h
set_option maxRecDepth 100000 in
theorem kQu {w : World} {v pm : Value} {n x m : NT} {F Fk : Nat -> Prop} {u : List Int} {A : Option Addr} {lq cq i : Nat} (hg : Gh w v n F) (hF : ∀ q, F q -> q < w.heap.size) (hm : Gh w pm m Fk) (hFk : ∀ q, Fk q -> q < w.heap.size /\ ¬ F q) (hq : zKt w A lq cq (u ++ [(i : Int)])) (hx : kB n u = some x) (hi : i <= x.ks.length) (hs : x.ks.length <= 500000) :
  Calls Tryz.prog 65 #[v, .slice A lq cq, pm] w (kRn F Fk v (putT n u (jS x i 0 [m])) w) := by
 obtain ⟨pu, Fm, hpt, hGm, hsub, hrep⟩ := Gh.sub u hg hx
 obtain ⟨b, lab, rs, ks, RA, rc, KA, kc, us, Fs, rfl, rfl, hO⟩ := hGm.opened
 have hik : i <= ks.length := hi
 have hsl : ks.length <= 500000 := hs
 obtain ⟨bk, rfl⟩ := hm.ptr
 obtain ⟨KA', kc', eK, hkc, _, _⟩ := zC9 hO.hk
 injection eK with eK1 _ eK2
 subst eK1 eK2
 have hvl := kRo hO
 have hones := kPs hO
 have hul := hO.hl
 obtain ⟨D, hD, hrunB⟩ := kP4 KA ks.length kc i hik hkc
 have hrunA := kPf KA ks.length kc i (by omega)
 obtain ⟨ul, hul0⟩ : ∃ l, u.length = l := ⟨_, rfl⟩
 have hlq := hq.len
 rw [List.length_append, List.length_singleton, hul0] at hlq
 subst hlq
 have hqu := hq.up
 have hle := hq.le
 have hcap := hq.cap
 obtain ⟨b0, o0, rfl, hb0, hc⟩ := hq.il.at_ (k := ul) (by rw [List.length_append, hul0]; simp)
 rw [<- hul0, kPt, hul0] at hc
 have hbl := hO.hb.lt
 have c2 := hO.hb.cell 2 (.slice KA ks.length kc) rfl
 have HPT := hd hpt
 have HQU := hd hqu
 have HO := hd hO
 have HVL := hd hvl
 have HONE := hd hones
 have HD := hd hD
 have HREP := hd hrep
 have HM := hd hm
 have HFK := hd hFk
 have HSUB := hd hsub
 have HFF := hd hF
 have HUL := hd hul
 clear hpt hqu hq hO hvl hones hD hrep hm hFk hsub hF hg hx hi hGm hs hul
 go_enter Tryz.func65, Tryz.ntmps65
 go_wp2_with (first
  | (go_at_call 27; refine Calls.mono (kOd HPT.out HQU.out) ?_; rintro e w1 ⟨rfl, hw1⟩; have hw1 := hw1.symm; subst hw1)
  | (at_builtin; refine kNt gpG w rfl (.tmp 22) (.tmp 28) rfl w.heap.size rfl KA i kc w.heap.size (us.take i) rfl (by have := HUL.out; simp; omega) (HVL.out.take i) (fun u hu => HONE.out u (List.mem_of_mem_take hu)) (by unfold maxLen; omega) (by omega) (Nat.le_refl _) ?_; intro A1 c1 w2 hown hb2 hat; have HOWN := hd hown; have HB2 := hd hb2; have HV := hd (HO.out.hb.keep hb2); clear hown hb2 hat)
  | (at_builtin; refine kN1 gpG w2 rfl (.tmp 30) (.tmp 32) rfl w.heap.size (.slice A1 i c1) i (us.take i) [.pointer (some ⟨bk, 0, none⟩)] rfl HOWN.out rfl rfl (by simp [Value.oneCell']) (by omega) (by decide) HB2.out.size ?_; intro A3 c4 w3 hown hgr hat; have HOWN3 := hd hown; have HGR3 := hd hgr; have HV := hd ((HV.out.alloc _).grew hgr (fun e => by have := (HOWN.out.lt _ e).1; omega)); have HB3 := hd ((HB2.out.alloc HB2.out.size _).grown hgr (by have := HB2.out.size; simp; omega) (fun j hj => by have := (HOWN.out.lt _ hj).1; omega)); have c2 := HV.out.cell 2 (.slice KA ks.length kc) rfl; clear hown hgr hat)
  | (at_builtin; refine zK7 gpG w3 rfl (.tmp 35) (.tmp 41) rfl w.heap.size (.slice A3 (i + 1) c4) (i + 1) (us.take i ++ [.pointer (some ⟨bk, 0, none⟩)]) rfl HOWN3.out D (ks.length - i) (kc - i) w.heap.size (us.drop i) rfl (by have := HUL.out; simp; omega) ((HD.out _ _ _ HVL.out HUL.out).below HB3.out) (fun u hu => HONE.out u (List.mem_of_mem_drop hu)) (by unfold maxLen; omega) (by omega) HB3.out.size ?_; intro A2 c3 w4 hown hgr hat; have HOWN2 := hd hown; have HGR := hd hgr; have HV := hd (HV.out.grew hgr (fun e => by have := (HOWN3.out.lt _ e).1; omega)); clear hown hgr hat c2)
  | ((with_reducible refine zF (ty := 57) (x := .tmp 44) ?_); refine zFd kP7 (r' := #[.int .i64 lab, .slice RA rs.length rc, .slice A2 (i + 1 + (ks.length - i)) c3]) HV.out _ _ rfl rfl rfl 2 (.slice A2 (i + 1 + (ks.length - i)) c3) rfl rfl rfl rfl (by show (2 : Nat) < 3; decide) rfl ?_; intro W5 hv ho; have HV5 := hd hv; have HO5 := hd ho; clear hv ho))
 go_end0
 have hFF := HFF.out
 have hsub := HSUB.out
 have hfk := HFK.out
 have hs2 := HB3.out.size
 have hs3 := HGR.out.size
 have hs5 := HO5.out.size
 have e1 : i + 1 + (ks.length - i) = ks.length + 1 := by omega
 have hv5 := HV5.out
 have hown := HOWN2.out
 rw [e1] at hv5 hown
 have keep : ∀ q, q < w.heap.size -> q ≠ b -> W5.heap[q]? = w.heap[q]? := fun q hq hne => by
  rw [HO5.out.block q (by omega) hne, HGR.out.block q (by omega) (fun e => by have := (HOWN3.out.lt _ e.symm).1; omega), HB3.out.block q hq]
 have hbF : F b := hsub b HO.out.hF
 have G1 := HO.out.put hik (fun q h => hFF q (hsub q h)) HM.out (fun q h => ⟨(hfk q h).1, fun e => (hfk q h).2 (hsub q e)⟩) hv5 keep (kN5 hown HO5.out fun e => by have := (hown.lt _ e).1; omega)
 have G2 := HREP.out W5 _ _ G1 (fun q h1 h2 => keep q (hFF q h1) fun e => h2 (e ▸ HO.out.hF)) (fun q h1 h2 h3 => by
  rcases h1 with h1 | h1 | h1
  ·exact h2 h1
  ·exact (hfk q h1).2 h3
  ·have := hFF q h3; omega)
 have e2 : jS (.mk false [] (lab :: rs) ks) i 0 [m] = .mk false [] (lab :: rs) (ks.take i ++ [m] ++ ks.drop i) := rfl
 refine ⟨_, rfl, by rw [e2]; exact G2, fun q h1 => ?_, ?_⟩
 ·rcases h1 with h1 | h1 | h1 | h1
  ·exact .inl h1.1
  ·exact .inl (hsub q h1)
  ·exact .inr (.inl h1)
  ·exact .inr (.inr h1)
 ·refine (Tch.of_below HB3.out).trans (Tch.trans (F := fun q => w.heap.size <= q ∨ F q) ⟨HGR.out.os, HGR.out.tape, HGR.out.output, hs3, fun q hq hn => HGR.out.block q hq fun e => hn (.inl (HOWN3.out.lt _ e.symm).1)⟩ (Tch.of_off HO5.out (F := F) hbF) (fun q _ h => .inr h)) (fun q hq h => ?_)
  rcases h with h | h
  ·omega
  ·exact h
mutual
def fgT : NT -> NT
 | .mk _ _ tx ks => .mk false [] (List.replicate tx.length (-2)) (fgK ks)
def fgK : List NT -> List NT
 | [] => []
 | k :: r => fgT k :: fgK r
end
theorem kN2 : ∀ (ks : List NT), (fgK ks).length = ks.length
 | [] => rfl
 | k :: r => by rw [fgK, List.length_cons, List.length_cons, kN2 r]
theorem kQv : ∀ (ks : List NT) (j : Nat), (fgK ks)[j]? = (ks[j]?).map fgT
 | [], j => by simp [fgK]
 | k :: r, 0 => by simp [fgK]
 | k :: r, j + 1 => by rw [fgK, List.getElem?_cons_succ, List.getElem?_cons_succ, kQv r j]
def kQl (k : Nat) (ks : List NT) : List NT := (fgK ks).take k ++ ks.drop k
theorem kO5 (k : Nat) (ks : List NT) (j : Nat) : (kQl k ks)[j]? = if j < k then (ks[j]?).map fgT else ks[j]? := by
 unfold kQl
 by_cases h : j < k
 ·rw [if_pos h]
  by_cases hl : j < ks.length
  ·rw [List.getElem?_append_left (by rw [List.length_take, kN2]; omega), List.getElem?_take_of_lt h, kQv]
  ·rw [List.getElem?_eq_none (by rw [List.length_append, List.length_take, kN2, List.length_drop]; omega), List.getElem?_eq_none (by omega)]; rfl
 ·rw [if_neg h]
  by_cases hl : k <= ks.length
  ·rw [List.getElem?_append_right (by rw [List.length_take, kN2]; omega), List.length_take, kN2, List.getElem?_drop]
   congr 1; omega
  ·rw [List.getElem?_eq_none (by rw [List.length_append, List.length_take, kN2, List.length_drop]; omega), List.getElem?_eq_none (by omega)]
theorem kOn (k : Nat) (ks : List NT) : (kQl k ks).length = ks.length := by unfold kQl; rw [List.length_append, List.length_take, kN2, List.length_drop]; omega
section
variable {w w' : World} {b : Nat} {lab lab' : Int} {rs rs' : List Int} {ks : List NT} {R K : Value} {us : List Value} {Fs : Nat -> Nat -> Prop} {F : Nat -> Prop}
theorem GhO.relab (h : GhO w b lab rs ks R K us Fs F) (hF : ∀ q, F q -> q < w.heap.size) (hv : jT 59 w' b #[.int .i64 lab', R, K]) (hr : w'.ownsRow 0 3 1 R rs'.length (rs'.map (Value.int .i64)))
  (keep : ∀ q, q < w.heap.size -> q ≠ b -> R.ownBlock ≠ some q -> w'.heap[q]? = w.heap[q]?) : GhO w' b lab' rs' ks R K us Fs F :=
 ⟨hv, h.hF, hr, kNl h.hk fun q hq => keep q (h.hk.lt q hq).2 (h.fk q hq).2.1 (h.fk q hq).2.2, h.hl, h.fr, h.fk, fun j m u e1 e2 => (h.kids j m u e1 e2).frame fun q hq => by
  have := h.sub j q hq
  exact keep q (hF q this.1) this.2.1 this.2.2.1, h.sub, h.dis⟩
theorem GhO.rekid {k : Nat} {m' : NT} {u : Value} (h : GhO w b lab rs ks R K us Fs F) (hF : ∀ q, F q -> q < w.heap.size) (hk : k < ks.length) (hu : us[k]? = some u) (hG : Gh w' u m' (Fs k)) (ht : Tch (Fs k) w w') : GhO w' b lab rs (ks.set k m') R K us Fs F := by
 have nb : ∀ q, Fs k q -> q ≠ b /\ R.ownBlock ≠ some q /\ K.ownBlock ≠ some q := fun q hq => (h.sub k q hq).2
 refine ⟨(ht.block b h.hb.lt fun e => (nb b e).1 rfl).trans h.hb, h.hF, kNl h.hr fun q hq => ht.block q (h.hr.lt q hq).2 fun e => (nb q e).2.1 hq, ?_, by rw [List.length_set]; exact h.hl, h.fr, h.fk, fun j m u2 e1 e2 => ?_, h.sub, h.dis⟩
 ·rw [List.length_set]
  exact kNl h.hk fun q hq => ht.block q (h.hk.lt q hq).2 fun e => (nb q e).2.2 hq
 ·by_cases e : j = k
  ·subst e
   rw [List.getElem?_set_self hk] at e1
   rw [hu] at e2
   injection e1 with e1
   injection e2 with e2
   subst e1 e2
   exact hG
  ·rw [List.getElem?_set_ne (fun h => e h.symm)] at e1
   exact (h.kids j m u2 e1 e2).frame fun q hq => ht.block q (hF q (h.sub j q hq).1) fun e2 => h.dis j k q e hq e2
end
theorem kQ5 {ks : List NT} {k : Nat} {m : NT} (h : ks[k]? = some m) : (kQl k ks).set k (fgT m) = kQl (k + 1) ks := by
 have hk : k < ks.length := (List.getElem?_eq_some_iff.1 h).1
 refine List.ext_getElem? fun j => ?_
 rw [kO5]
 by_cases e : j = k
 ·subst e
  rw [List.getElem?_set_self (by rw [kOn]; exact hk), if_pos (by omega), h]; rfl
 ·rw [List.getElem?_set_ne (fun h => e h.symm), kO5]
  by_cases h2 : j < k
  ·rw [if_pos h2, if_pos (by omega)]
  ·rw [if_neg h2, if_neg (by omega)]
theorem kQ6 (ks : List NT) : kQl ks.length ks = fgK ks := by unfold kQl; rw [List.take_of_length_le (by rw [kN2]; exact Nat.le_refl _), List.drop_eq_nil_of_le (Nat.le_refl _), List.append_nil]
theorem kRh (rs : List Int) (k : Nat) (hk : k < rs.length) : (List.replicate k (-2 : Int) ++ rs.drop k).set k (-2) = List.replicate (k + 1) (-2) ++ rs.drop (k + 1) := by
 rw [List.set_append_right _ _ (by simp), List.length_replicate, Nat.sub_self, List.drop_eq_getElem_cons hk, List.set_cons_zero, List.replicate_succ', List.append_assoc]
 rfl
theorem kPu (rs : List Int) (k : Nat) (hk : k <= rs.length) : (List.replicate k (-2 : Int) ++ rs.drop k).length = rs.length := by simp; omega
def kRp (F : Nat -> Prop) (v : Value) (n : NT) (w : World) (e : Ending) (w' : World) : Prop := e = .returned (.tuple #[]) /\ Gh w' v (fgT n) F /\ Tch F w w'
set_option maxRecDepth 100000 in
theorem kPv : ∀ (N : Nat) (w : World) (v : Value) (n : NT) (F : Nat -> Prop), sizeT n <= N -> Gh w v n F -> (∀ q, F q -> q < w.heap.size) -> sizeT n <= 500000 -> Calls Tryz.prog 64 #[v] w (kRp F v n w) := by
 intro N
 induction N with
 | zero => intro w v n F h; have := zJs n; omega
 | succ N ih =>
  intro w v n F hN hG hF hs
  obtain ⟨b, lab, rs, ks, RA, rc, KA, kc, us, Fs, rfl, rfl, hO⟩ := hG.opened
  simp only [sizeT, List.length_cons] at hN hs
  have hkl := kOe ks
  have c0 := hO.hb.cell 0 (.int .i64 lab) rfl
  have f0 := hO.hb.thaw 0
  obtain ⟨hv0, ho0⟩ := hO.hb.set 0 (.int .i64 (-2))
  obtain ⟨W1, hW1⟩ : ∃ W, w.setCell ⟨b, 0, none⟩ (.int .i64 (-2)) = W := ⟨_, rfl⟩
  rw [hW1] at hv0 ho0
  have h1 : GhO W1 b (-2) (List.replicate 0 (-2) ++ rs.drop 0) ks (.slice RA rs.length rc) (.slice KA ks.length kc) us Fs F := by
   refine hO.relab hF hv0 ?_ fun q h2 h3 _ => ho0.block q h2 h3
   rw [show List.replicate 0 (-2 : Int) ++ rs.drop 0 = rs by simp]
   exact kNl hO.hr fun q hq => ho0.block q (hO.hr.lt q hq).2 (hO.fr q hq).2
  have HW1 := hd hW1
  have HO1 := hd h1
  have HT1 := hd (Tch.of_off ho0 hO.hF)
  have HF := hd hF
  have HS := hd hs
  have HNN := hd hN
  have hrl : rs.length <= 500000 := by omega
  have hkl2 : ks.length <= 500000 := by omega
  have hbF := hO.hF
  have HBF := hd hbF
  clear hG hF hO h1 hv0 ho0 hW1 hN hs hkl hbF
  go_enter Tryz.func64, Tryz.ntmps64
  go_upto_region 1 with fail
  rw [HW1.out]
  clear c0 f0 HW1
  have c1 := HO1.out.hb.cell 1 (.slice RA rs.length rc) rfl
  go_wp2
  clear c1
  go_loopw [13] (fun i wr => ∃ k : Nat, k <= rs.length /\ i = .int .i64 k /\ Hid (GhO wr b (-2) (List.replicate k (-2) ++ rs.drop k) ks (.slice RA rs.length rc) (.slice KA ks.length kc) us Fs F) /\ Hid (Tch F w wr)) (fun i _ => rs.length - (intOf i).toNat)
  case atStart => exact ⟨0, Nat.zero_le _, rfl, HO1, HT1⟩
  case round =>
   obtain ⟨k, hk, rfl, HO, HT⟩ := hrel
   clear HO1 HT1
   by_cases hlt : k < rs.length
   ·have hr := HO.out.hr
    rw [kPu rs k hk] at hr
    obtain ⟨RA', rc', eR, hrc, _, hfree⟩ := zC9 hr
    injection eR with eR1 _ eR2
    subst eR1 eR2
    obtain ⟨x, hx⟩ : ∃ x, ((List.replicate k (-2 : Int) ++ rs.drop k).map (Value.int .i64))[k]? = some x := ⟨_, List.getElem?_eq_getElem (by rw [List.length_map, kPu rs k hk]; exact hlt)⟩
    obtain ⟨g, rfl, _, hgl, hcx, hfx⟩ := hfree k x hx
    have c1 := HO.out.hb.cell 1 (.slice (some ⟨g, 0, none⟩) rs.length rc) rfl
    obtain ⟨hst, hgr⟩ := hr.stored k (.int .i64 (-2))
    obtain ⟨W2, hW2⟩ : ∃ W, wr.setCell ⟨g, k, none⟩ (.int .i64 (-2)) = W := ⟨_, rfl⟩
    rw [hW2] at hst hgr
    have hgb := HO.out.fr g rfl
    have hN2 : GhO W2 b (-2) (List.replicate (k + 1) (-2) ++ rs.drop (k + 1)) ks (.slice (some ⟨g, 0, none⟩) rs.length rc) (.slice KA ks.length kc) us Fs F := by
     refine HO.out.relab (fun q h => Nat.lt_of_lt_of_le (HF.out q h) HT.out.size) ((hgr.block b HO.out.hb.lt fun e => hgb.2 (Option.some.inj e).symm).trans HO.out.hb) ?_ fun q h2 _ h3 => hgr.block q h2 fun e => h3 (by rw [e]; rfl)
     rw [kPu rs (k + 1) hlt, <- kRh rs k hlt, List.map_set]
     exact hst
    have HN2 := hd hN2
    have HT2 := hd (show Tch F w W2 from HT.out.trans ⟨hgr.os, hgr.tape, hgr.output, hgr.size, fun q h2 h3 => hgr.block q h2 fun e => h3 (Option.some.inj e ▸ hgb.1)⟩ fun q _ h => h)
    have HW2 := hd hW2
    clear hr hst hgr hN2 hW2 hfree hx hgb
    go_wp2
    rw [HW2.out]
    go_roundw
    case rel => exact ⟨k + 1, by omega, by go_num, HN2, HT2⟩
    case measure => simp [intOf]; omega
   ·obtain rfl : k = rs.length := by omega
    have c2 := HO.out.hb.cell 2 (.slice KA ks.length kc) rfl
    have HX := hd (show GhO wr b (-2) (List.replicate rs.length (-2) ++ rs.drop rs.length) (kQl 0 ks) (.slice RA rs.length rc) (.slice KA ks.length kc) us Fs F from by rw [show kQl 0 ks = ks by unfold kQl; simp]; exact HO.out)
    go_wp2
    clear c2
    go_loopw [28] (fun i wr2 => ∃ k : Nat, k <= ks.length /\ i = .int .i64 k /\ Hid (GhO wr2 b (-2) (List.replicate rs.length (-2) ++ rs.drop rs.length) (kQl k ks) (.slice RA rs.length rc) (.slice KA ks.length kc) us Fs F) /\ Hid (Tch F w wr2)) (fun i _ => ks.length - (intOf i).toNat)
    case atStart => exact ⟨0, Nat.zero_le _, rfl, HX, HT⟩
    case round =>
     obtain ⟨k, hk2, rfl, HY, HTY⟩ := hrel
     clear HX HO HT hk
     by_cases hlt2 : k < ks.length
     ·obtain ⟨m, hm⟩ : ∃ m, ks[k]? = some m := ⟨_, List.getElem?_eq_getElem hlt2⟩
      have hul : us.length = ks.length := by have := HY.out.hl; rw [kOn] at this; exact this
      obtain ⟨u, hu⟩ : ∃ u, us[k]? = some u := ⟨_, List.getElem?_eq_getElem (by omega)⟩
      have hGk := HY.out.kids k m u (by rw [kO5, if_neg (by omega)]; exact hm) hu
      have hrk := HY.out.hk
      rw [kOn] at hrk
      obtain ⟨KA', kc', eK, hkc, _, hfree⟩ := zC9 hrk
      injection eK with eK1 _ eK2
      subst eK1 eK2
      obtain ⟨g, rfl, _, _, hcx, _⟩ := hfree k u hu
      obtain ⟨bk, rfl⟩ := hGk.ptr
      have hsm := kQx hm
      have HC := hd (ih wr _ m (Fs k) (by have := HNN.out; omega) hGk (fun q h => Nat.lt_of_lt_of_le (HF.out q (HY.out.sub k q h).1) HTY.out.size) (by have := HS.out; omega))
      have HM := hd hm
      have HU := hd hu
      clear hm hu hGk hrk hfree hsm hul
      go_wp2_with (go_at_call 64; refine HC.out.mono ?_; rintro e w4 ⟨rfl, hg4, ht4⟩; have HG4 := hd hg4; have HT4 := hd ht4; clear hg4 ht4)
      go_roundw
      case rel => exact ⟨k + 1, by omega, by go_num, hd (by rw [<- kQ5 HM.out]; exact HY.out.rekid (fun q h => Nat.lt_of_lt_of_le (HF.out q h) HTY.out.size) (by rw [kOn]; exact hlt2) HU.out HG4.out HT4.out), hd (HTY.out.trans HT4.out fun q _ h => (HY.out.sub k q h).1)⟩
      case measure => simp [intOf]; omega
     ·obtain rfl : k = ks.length := by omega
      go_wp2
      go_end0
      refine ⟨rfl, ?_, HTY.out⟩
      have h := HY.out.gh
      rw [kQ6, List.drop_eq_nil_of_le (Nat.le_refl _), List.append_nil] at h
      exact h
mutual
def kOb : NT -> NT -> Bool
 | .mk _ _ gx gk, .mk _ _ tx ks => decide (gx.length = tx.length + 1) && shpK gk ks
def shpK : List NT -> List NT -> Bool
 | [], [] => true
 | g :: gr, k :: r => kOb g k && shpK gr r
 | [], _ :: _ => false
 | _ :: _, [] => false
end
theorem kOo : ∀ (gk ks : List NT), shpK gk ks = true ↔ gk.length = ks.length /\ ∀ (j : Nat) (g k : NT), gk[j]? = some g -> ks[j]? = some k -> kOb g k = true
 | [], [] => by simp [shpK]
 | g :: gr, k :: r => by
  rw [shpK, Bool.and_eq_true, kOo gr r, List.length_cons, List.length_cons]
  constructor
  ·rintro ⟨h1, h2, h3⟩
   refine ⟨by omega, fun j g' k' e1 e2 => ?_⟩
   cases j with
   | zero =>
    simp only [List.getElem?_cons_zero, Option.some.injEq] at e1 e2
    subst e1 e2
    exact h1
   | succ j =>
    rw [List.getElem?_cons_succ] at e1 e2
    exact h3 j g' k' e1 e2
  ·rintro ⟨h1, h2⟩
   exact ⟨h2 0 g k rfl rfl, by omega, fun j g' k' e1 e2 => h2 (j + 1) g' k' (by rw [List.getElem?_cons_succ]; exact e1) (by rw [List.getElem?_cons_succ]; exact e2)⟩
 | [], _ :: _ => by simp [shpK]
 | _ :: _, [] => by simp [shpK]
theorem kQ7 {a c : Bool} {p q : List Pr} {gx tx : List Int} {gk ks : List NT} : kOb (.mk a p gx gk) (.mk c q tx ks) = true ↔ gx.length = tx.length + 1 /\ gk.length = ks.length /\ ∀ (j : Nat) (g k : NT), gk[j]? = some g -> ks[j]? = some k -> kOb g k = true := by
 rw [kOb, Bool.and_eq_true, decide_eq_true_iff, kOo]
set_option maxRecDepth 100000 in
theorem kQi : ∀ (d : Nat) (w : World) (v nv : Value) (g n : NT) (F : Nat -> Prop), Gh w v g F -> (∀ q, F q -> q < w.heap.size) -> zV d w w.heap.size nv n -> kOb g n = true -> Calls Tryz.prog 32 #[v, nv] w (jA (.bool true) w) := by
 intro d
 induction d with
 | zero => intro w v nv g n F _ _ h; exact h.elim
 | succ d ih =>
  intro w v nv g n F hG hF hn hsh
  obtain ⟨b, lab, rs, gk, RA, rc, GA, gc, us, Fs, rfl, rfl, hO⟩ := hG.opened
  obtain ⟨d', lf, ps, tx, ks, PA, pc, TA, tc, KA, kc, hd', rfl, rfl, hp, ht, hf, hks⟩ := hn.open_
  obtain rfl : d = d' := by omega
  obtain ⟨s1, s2, s3⟩ := kQ7.1 hsh
  rw [List.length_cons] at s1
  have s1' : rs.length = tx.length := by omega
  have hl := hf.2.2.1
  have hl3 := hf.2.2.2.1
  obtain ⟨wb, hwb⟩ : ∃ wb, w.alloc (.cells #[.bool lf, .slice PA ps.length pc, .slice TA tx.length tc, .slice KA ks.length kc] 26) = wb := ⟨_, rfl⟩
  have hb1 : Below w.heap.size w wb := hwb ▸ (Below.refl _ _).alloc (Nat.le_refl _) _
  have hv3 : jT 26 wb w.heap.size #[.bool lf, .slice PA ps.length pc, .slice TA tx.length tc, .slice KA ks.length kc] := hwb ▸ jT.new w _ _
  have hvb := hO.hb.keep hb1
  have x1 := hvb.cell 1 (.slice RA rs.length rc) rfl
  have x2 := hvb.cell 2 (.slice GA gk.length gc) rfl
  have y2 := hv3.cell 2 (.slice TA tx.length tc) rfl
  have y3 := hv3.cell 3 (.slice KA ks.length kc) rfl
  have t1 : ((rs.length : Int) != (tx.length : Int)) = false := by simp [s1']
  have t2 : ((gk.length : Int) != (ks.length : Int)) = false := by simp [s2]
  have hgs := hO.hk
  have HB := hd hb1
  have HV3 := hd hv3
  have HVB := hd hvb
  have HO := hd hO
  have HF := hd hF
  have HKS := hd hks
  have HSH := hd s3
  have HW := hd hwb
  have HS2 := hd s2
  clear hG hF hn hsh hO hp ht hf hks hd' hwb hb1 hv3 hvb hgs s1 s1' s3
  go_enter Tryz.func32, Tryz.ntmps32
  go_upto_region 1 with fail
  rw [HW.out]
  clear HW
  go_quiet (fail)
  obtain ⟨wq, hwq⟩ : ∃ x, wb.drewN nq = x := ⟨_, rfl⟩
  have HBQ := hd (hwq ▸ zZ HB.out nq : Below w.heap.size w wq)
  have HV3 := hd (hwq ▸ (show jT 26 (wb.drewN nq) w.heap.size _ from HV3.out) : jT 26 wq w.heap.size #[.bool lf, .slice PA ps.length pc, .slice TA tx.length tc, .slice KA ks.length kc])
  have x2 := HO.out.hb.cell 2 (.slice GA gk.length gc) rfl
  rw [<- HBQ.out.cell (p := ⟨b, 2, none⟩) HO.out.hb.lt] at x2
  rw [hwq]
  have hgl : gk.length <= 1759218604441 := by have := HS2.out; omega
  clear hwq HVB HB x1 y2 y3 t1 t2
  go_wp2
  clear x2
  go_loopw [32] (fun i wr => ∃ k : Nat, k <= gk.length /\ i = .int .i64 k /\ Hid (Below wq.heap.size wq wr)) (fun i _ => gk.length - (intOf i).toNat)
  case atStart => exact ⟨0, Nat.zero_le _, rfl, hd (Below.refl _ _)⟩
  case round =>
   obtain ⟨k, hk, rfl, HQ⟩ := hrel
   have hbr := HBQ.out.trans (HQ.out.mono HBQ.out.size)
   by_cases hlt : k < gk.length
   ·obtain ⟨m, b1, o1, lf1, PA1, np1, pc1, TA1, nt1, tc1, KA1, nk1, kc1, hm, rfl, hbg, hnm, d0, d1, d2, d3⟩ := (HKS.out.below hbr).at_ (k := k) (by have := HS2.out; omega)
    obtain ⟨g1, hg1⟩ : ∃ g1, gk[k]? = some g1 := ⟨_, List.getElem?_eq_getElem hlt⟩
    obtain ⟨u, hu⟩ : ∃ u, us[k]? = some u := ⟨_, List.getElem?_eq_getElem (by rw [HO.out.hl]; exact hlt)⟩
    have hGk := HO.out.kids k g1 u hg1 hu
    obtain ⟨GA', gc', eK, hgc, hgm, hfree⟩ := zC9 HO.out.hk
    injection eK with eK1 _ eK2
    subst eK1 eK2
    obtain ⟨g, rfl, _, hgw, hcx, _⟩ := hfree k u hu
    rw [<- hbr.cell (p := ⟨g, k, none⟩) hgw] at hcx
    obtain ⟨bk, rfl⟩ := hGk.ptr
    have y3 := (HV3.out.keep HQ.out).cell 3 (.slice (some ⟨b1, o1, none⟩) ks.length kc) rfl
    have HC := hd (ih wr _ _ g1 m (Fs k) (hGk.later (fun q h => HF.out q (HO.out.sub k q h).1) hbr) (fun q h => Nat.lt_of_lt_of_le (HF.out q (HO.out.sub k q h).1) hbr.size) (hnm.more hbr.size) (HSH.out k g1 m hg1 hm))
    have hks2 : k < ks.length := by have := HS2.out; omega
    have HQ2 := hd HQ.out
    clear hm hg1 hu hGk hfree hnm hgw HQ hbr
    go_wp2_with (go_at_call 32; refine HC.out.mono ?_; rintro e w4 ⟨rfl, hb4⟩; have HB4 := hd hb4; clear hb4)
    go_roundw
    case rel => exact ⟨k + 1, by omega, by go_num, hd (HQ2.out.trans (HB4.out.mono HQ2.out.size))⟩
    case measure => simp [intOf]; omega
   ·have HX := hd hbr
    clear hbr
    go_wp2
    go_ret
    exact ⟨rfl, HX.out⟩
end Go.Proofs.YtmkciabefepelaaGreat
