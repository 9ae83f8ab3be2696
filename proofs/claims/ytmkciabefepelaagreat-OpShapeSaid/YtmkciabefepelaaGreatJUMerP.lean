/- What merge leaves, plain. -/
import Derived.Test.YtmkciabefepelaaGreatJGCat
import Derived.Test.YtmkciabefepelaaGreatJUTxt
import Derived.Test.YtmkciabefepelaaGreatJNTopO
set_option maxRecDepth 100000
set_option maxHeartbeats 8000000
namespace Go.Proofs.YtmkciabefepelaaGreat
open Go.RowKit
structure kI2 (base d : Nat) (w : World) (c : NC) (n : NT) (us : List Value) : Prop where
 lf : n.lf = c.lf
 np : n.ps.length = c.np
 nt : n.tx.length = c.nt
 nk : n.ks.length = c.nk
 p : w.ownsRow base 94 2 (.slice c.P c.np c.pc) c.np (pv n.ps)
 x : w.ownsRow base 21 1 (.slice c.X c.nt c.tc) c.nt (rv n.tx)
 k : w.ownsRow base 26 4 (.slice c.K c.nk c.kc) c.nk (zGg us)
 f : zU0 n.ps n.tx.length n.ks.length c.pc c.tc c.kc
 len : us.length = n.ks.length
 kids : ∀ (j : Nat) (m : NT), n.ks[j]? = some m -> ∃ u, us[j]? = some u /\ zAx (fun b => base <= b /\ b < w.heap.size /\ some b ≠ (Value.slice c.K c.nk c.kc).ownBlock) d w u m
theorem kNi {P Q : Prop} (k : Q) (h : Q -> P := by
 intro kk
 simp only [Act.put, List.getElem_toArray, List.getElem_cons_succ, List.getElem_cons_zero, List.setIfInBounds_toArray, List.set_cons_succ, List.set_cons_zero]
 exact kk) : P := h k
theorem zV2.top {r : NT × Int} {w w' : World} {e : Ending} (h : zV2 r w e w') : ∃ c d us, e = .returned (.tuple #[.agg (NC.row c), .int .i64 r.2]) /\ kI2 w.heap.size d w' c r.1 us /\ zH3 w.heap.size w' (fun W => kS W c r.1) /\ Below w.heap.size w w' := by
 obtain ⟨v, d, rfl, ht, hb⟩ := h
 have ht2 := ht.tree
 obtain ⟨PA, pc, TA, tc, KA, kc, us, rfl, hp, hx, hk, hf, hl, hks⟩ := ht
 exact ⟨⟨r.1.lf, PA, r.1.ps.length, pc, TA, r.1.tx.length, tc, KA, r.1.ks.length, kc⟩, d, us, rfl, ⟨rfl, rfl, rfl, rfl, hp, hx, hk, hf, hl, fun j m hm => by
  obtain ⟨u, h1, h2⟩ := hks j m hm
  exact ⟨u, h1, h2.keep (fun b hb => ⟨hb.1, hb.2.1, by have := hb.2.2; cases KA <;> exact this⟩) (fun _ _ => ⟨rfl, rfl⟩)⟩⟩, zHy ht2, hb⟩
theorem zHl {w : World} {A : Option Addr} {lq cq : Nat} {q : List Int} {c : NC} {n : NT} {r : NT × Int} (hn : kS w c n) (hq : zKt w A lq cq q) (hE : zGm n q = r) : Calls Tryz.prog 30 #[.agg c.row, .slice A lq cq] w (zV2 r w) := by
 obtain ⟨x, e⟩ := r
 exact kJ0 hE hq.len hq.le hn hq.il
theorem zJh {ts te : TypeId} {size by_ : Nat} (E : zQ7 ts te size by_) (W : World) {ops : Array Oper} {o : Oper} {a : Act} {K : Act -> World -> Prop} {Q : Exit -> Act -> World -> Prop} {F : Prop} (hgd : o.guard = none) (s x : Operand)
  (ho : o.op = .call { callee := .builtin .append, args := #[s, x], argTypes := #[ts, ts] })
  (b : Nat) (v : Value) (n : Nat) (k : List Value) (hs : a.eval s = v) (hO : W.ownsRow b te size v n k) (A : Option Addr) (m c : Nat) (hm : m = 0) (hx : a.eval x = .slice A m c) (hK : K (a.put o.dst v) W) :
  if Region.wanted o (yielded ops a.tmps) = true then Oper.wp Tryz.prog o a W K Q else F := by
 subst hm
 have hw : Region.wanted o (yielded ops a.tmps) = true := by simp [Region.wanted, hgd]
 rw [if_pos hw]
 obtain ⟨i0, z, hi, hz0, hz1, hz2, hz3⟩ := E.info
 have hrun := zEp (w := W) (ty := o.type) (A := A) (c := c) E.under hi hO
 unfold Oper.wp execOp
 simp only [ho, resolve, invoke, builtin, Sem.run_bind, Sem.run_pure, Result.andThen_ok, List.map_toArray, List.map_cons, List.map_nil, hs, hx, hrun]
 exact hK
theorem kI2.high {base d : Nat} {w w' : World} {c : NC} {n : NT} {us : List Value} (h : kI2 base d w c n us) (hh : zA5 base w w') : kI2 base d w' c n us :=
 ⟨h.lf, h.np, h.nt, h.nk, zA8 h.p hh.block, zA8 h.x hh.block, zA8 h.k hh.block, h.f, h.len, fun j m hm => by
  obtain ⟨u, h1, h2⟩ := h.kids j m hm
  exact ⟨u, h1, h2.keep (fun b hb => ⟨hb.1, Nat.lt_of_lt_of_le hb.2.1 hh.size, hb.2.2⟩) (fun p hp => ⟨hh.cell hp.1 hp.2.1, hh.frozen hp.1 hp.2.1⟩)⟩⟩
theorem zS0 {w w' : World} {base g : Nat} {t : TypeId} {size : Nat} {v : Value} {n : Nat} {xs : List Value} (h : w.ownsRow base t size v n xs) (ho : Off g w w') (hg : v.ownBlock ≠ some g) : w'.ownsRow base t size v n xs := by
 refine ⟨h.1, ?_⟩
 rcases h.2 with e | ⟨g', cap, cur, e, hb, hh, rest⟩
 ·exact .inl e
 ·refine .inr ⟨g', cap, cur, e, hb, (ho.block g' (lt_of_block hh) (fun e2 => hg ?_)).trans hh, rest⟩
  rw [e, e2]; rfl
theorem zS1 {w4 W W5 W8 : World} {base d g : Nat} {c m : NC} {b mt : NT} {us : List Value} {A' : Option Addr} {c' : Nat} {cs : Array Value} {fr : Nat × Nat} (ht : kI2 base d w4 c b us) (hi : zA5 base w4 W) (hlb : b.ks = []) (hlm : mt.ks = []) (hlen : mt.tx.length = m.nt) (hbig : c.nt + m.nt <= 100000)
  (hrow : W5.ownsRow base 21 1 (.slice A' (c.nt + m.nt) c') (c.nt + m.nt) (rv b.tx ++ rv mt.tx)) (hgr : W.grownBy W5 (Value.slice c.X c.nt c.tc).ownBlock) (hg : W5.heap[g]? = some (.cells cs 26 fr)) (ho : Off g W5 W8) : kS W8 { c with X := A', nt := c.nt + m.nt, tc := c' } (zAo b mt) := by
 have h := ht.high hi
 have hk : zGj W5 W8 := zGj.of_but hg fun k hk hl => ho.block k hl hk
 have hp := zCs (h.p.kept hgr (zJz h.x h.p (by decide))) (by decide) hk
 have hx := zCs hrow (by decide) hk
 have hf := h.f
 have e1 := h.nt
 have e2 := h.nk
 have hn : ({ c with X := A', nt := c.nt + m.nt, tc := c' } : NC).nk = 0 := by show c.nk = 0; rw [<- e2, hlb]; rfl
 refine zHz.has ⟨h.lf, h.np, ?_, ?_, VP.pl (zIr hp) (fun _ hb => hb.2), ?_, ?_, 0, ?_⟩
 ·show (b.tx ++ mt.tx).length = c.nt + m.nt
  rw [List.length_append]; omega
 ·show (b.ks ++ mt.ks).length = c.nk
  rw [hlm, List.append_nil]; exact e2
 ·show VL W8 _ A' (rv (b.tx ++ mt.tx))
  have : rv (b.tx ++ mt.tx) = rv b.tx ++ rv mt.tx := by simp [rv]
  rw [this]
  exact VP.vl (zIr hx) (fun _ hb => hb.2)
 ·exact ⟨hf.1, hf.2.1, by show (b.tx ++ mt.tx).length <= _; rw [List.length_append]; omega, by show (b.ks ++ mt.ks).length <= _; rw [hlm, List.append_nil]; exact hf.2.2.2.1, hf.2.2.2.2.1, by show (b.tx ++ mt.tx).length <= c'; rw [List.length_append]; have := zPm hx; omega, by show (b.ks ++ mt.ks).length <= _; rw [hlm, List.append_nil]; exact hf.2.2.2.2.2.2⟩
 ·intro j m hm
  have : (b.ks ++ mt.ks)[j]? = some m := hm
  rw [hlb, hlm] at this
  simp at this
theorem zY0 {w w4 W W5 W8 : World} {base d d' g : Nat} {c m : NC} {b mt : NT} {us vs : List Value} {A' : Option Addr} {c' : Nat} (ht : kI2 base d w4 c b us) (hi : zA5 base w4 W) (_hlb : b.tx = []) (hlm : mt.tx = []) (hlen : mt.ks.length = m.nk) (hbig : c.nk + m.nk <= 100000)
  (hrow : W5.ownsRow base 26 4 (.slice A' (c.nk + m.nk) c') (c.nk + m.nk) (zGg us ++ zGg vs)) (hgr : W.grownBy W5 (Value.slice c.K c.nk c.kc).ownBlock) (hat : (Value.slice A' (c.nk + m.nk) c').ownBlock = (Value.slice c.K c.nk c.kc).ownBlock ∨ ∃ q, (Value.slice A' (c.nk + m.nk) c').ownBlock = some q /\ W.heap.size <= q)
  (hg : w4.heap.size <= g) (hgl : g < W.heap.size) {cs : Array Value} {fr : Nat × Nat} (hgc : W5.heap[g]? = some (.cells cs 26 fr)) (ho : Off g W5 W8) (hv : zM1 d' w w.heap.size vs mt.ks) (_hw : w.heap.size <= base) (hb : Below w.heap.size w W8) : kS W8 { c with K := A', nk := c.nk + m.nk, kc := c' } (zAo b mt) := by
 have h := ht.high hi
 have hk : zGj W5 W8 := zGj.of_but hgc fun k hk hl => ho.block k hl hk
 have hp := zCs (h.p.kept hgr (zJz h.k h.p (by decide))) (by decide) hk
 have hx := zCs (h.x.kept hgr (zJz h.k h.x (by decide))) (by decide) hk
 have hkl : ∀ q, (Value.slice c.K c.nk c.kc).ownBlock = some q -> q < w4.heap.size := fun q hq => (ht.k.lt q hq).2
 have hkk := zS0 hrow ho (fun e => by
  rcases hat with h2 | ⟨q, h2, h3⟩
  ·rw [h2] at e; have := hkl g e; omega
  ·rw [h2] at e; injection e with e; omega)
 have hf := h.f
 have e1 := h.nt
 have e2 := h.nk
 have h5 := hgr.size
 have h8 := ho.size
 have h4 := hi.size
 have hvals : zM1 (max d d') W8 W8.heap.size (us ++ vs) (b.ks ++ mt.ks) := by
  refine zM1.append ⟨h.len, fun j x hj => ?_⟩ (((hv.below hb).more hb.size).deep (Nat.le_max_right _ _))
  obtain ⟨u, hu, htr⟩ := ht.kids j x hj
  refine ⟨u, hu, ((htr.keep (Q := fun b => b < W8.heap.size) (fun b hb => by omega) (fun p hp => ?_)).at_ (fun _ h => h)).deep (Nat.le_max_left _ _)⟩
  have e : W8.heap[p.block]? = w4.heap[p.block]? := by
   rw [ho.block _ (by omega) (by omega), hgr.block _ (by omega) hp.2.2, hi.block _ hp.1 hp.2.1]
  exact ⟨World.cell?_of_block e, World.frozen?_of_block e⟩
 have hkids : zKn (max d d') W8 W8.heap.size A' (b.ks ++ mt.ks) := kDy (us := us ++ vs) (by rw [zRu]; exact hkk) hvals
 refine zHz.has ⟨h.lf, h.np, ?_, ?_, VP.pl (zIr hp) (fun _ hb => hb.2), ?_, ?_, _, hkids⟩
 ·show (b.tx ++ mt.tx).length = c.nt
  rw [hlm, List.append_nil]; exact e1
 ·show (b.ks ++ mt.ks).length = c.nk + m.nk
  rw [List.length_append]; omega
 ·show VL W8 _ c.X (rv (b.tx ++ mt.tx))
  rw [hlm, List.append_nil]
  exact VP.vl (zIr hx) (fun _ hb => hb.2)
 ·exact ⟨hf.1, hf.2.1, by show (b.tx ++ mt.tx).length <= _; rw [hlm, List.append_nil]; exact hf.2.2.1, by show (b.ks ++ mt.ks).length <= _; rw [List.length_append]; omega, hf.2.2.2.2.1, by show (b.tx ++ mt.tx).length <= _; rw [hlm, List.append_nil]; exact hf.2.2.2.2.2.1, by show (b.ks ++ mt.ks).length <= c'; rw [List.length_append]; have := zPm hkk; omega⟩
theorem kOr {P : Prop} (h : P := by
 have HBK := hd hbk
 try have HIN := hd hin
 try have HQL := hd hql
 try have HGB := hd hgb
 try have HBL := hd hbl
 try have HML := hd hml
 have HN := hd hn
 have HO := hd ho
 have HTA := hd ta
 have HMN := hd hm
 clear hn ho ta hm hbk
 try clear hin
 try clear hql
 try clear hgb
 try clear hbl
 try clear hml
 obtain ⟨W0, hW, hst⟩ := jM w c o m
 have HW := hd hW
 have HM := hd hst
 clear hW hst
 go_enter Tryz.func81, Tryz.ntmps81
 go_upto_region 1 with fail
 rw [HW.out]
 clear HW
 go_wp2_with (first
  | ((with_reducible refine zC (ty := 27) (x := .tmp 14) ?_); refine zE HM.out.v4 (j := 1) (v := .slice o.Q o.lq o.cq) _ rfl rfl rfl rfl Tryz.underlying27 rfl ?_)
  | (go_at_call 117; refine Calls.mono (zI7 (HO.out.later HM.out.below) HTA.out HBK.out) ?_; rintro e w2 ⟨A2, l2, c2, rfl, hl2, hc2, hi2, b9⟩; have HQ2 := hd (show Pth _ w2 A2 l2 c2 q2 w2 from ⟨hl2, by have h5 := HQL.out; have h6 : q2.length = l2 := hl2; omega, hc2, HIN.out, hi2, zA5.refl _ _⟩); have hlo2 := HM.out.v6.lt; have HM := hd (HM.out.call b9); have hlt2 := HM.out.v6.lt; clear b9 hl2 hc2 hi2; dsimp only)
  | (go_at_call 117; refine Calls.mono (zI7 (HO.out.later HM.out.below) HTA.out HBK.out) ?_; rintro e w2 ⟨A2, l2, c2, rfl, hl2, hc2, hi2, b9⟩; have HM := hd (HM.out.call b9); clear b9 hl2 hc2 hi2; dsimp only)
  | ((with_reducible refine zC (ty := 26) (x := .tmp 3) ?_); refine zB zD HM.out.v3 rfl _ rfl rfl rfl ?_)
  | (go_at_call 30; refine Calls.mono (zHl (HN.out.later HM.out.below) HQ2.out.has HGB.out) ?_; rintro e w4 h4; obtain ⟨cb, db, us, rfl, htop, hst, b9⟩ := h4.top; have HTOP := hd htop; have HB := hd hst.now; have HM := hd (HM.out.call b9); have HQ2 := hd (HQ2.out.call b9); have hlt4 := HM.out.v6.lt; have hb24 := b9.size; clear b9 htop hst; dsimp only)
  | ((with_reducible refine zF (ty := 26) (x := .tmp 10) ?_); refine zA zD (r0 := NC.nil.row) (r := cb.row) (zAr w4).1 rfl rfl cb.one _ _ rfl rfl rfl rfl rfl ?_; intro W5 hv ho; have HV10 := hd hv; have HI := hd (((zA5.refl w2.heap.size w4).call (zAr w4).2).off2 ho (by omega)); have HB := hd (HB.out.later2 (zAr w4).2 ho (Nat.le_refl _)); have HQ2 := hd ((HQ2.out.call (zAr w4).2).off ho (by omega)); have HM := hd ((HM.out.call (zAr w4).2).off (by omega) ho); clear hv ho)
  | ((with_reducible refine zF (ty := 26) (x := .tmp 6) ?_); refine zA zD (r0 := NC.nil.row) (r := NC.nil.row) HM.out.v6 rfl rfl NC.nil.one _ _ rfl rfl rfl rfl rfl ?_; intro W7 hv ho; have HM := hd (HM.out.set6 (a' := NC.nil) hv ho); clear hv ho)
  | ((with_reducible refine zC (ty := 4) (x := .tmp 35) ?_); refine zM HV10.out (j := 0) (v := .bool false) _ rfl rfl rfl (by have h9 := HB.out.lf; rw [HBL.out] at h9; simp only [NC.row, <- h9]; rfl) Tryz.underlying4 rfl ?_)
  | ((with_reducible refine zC (ty := 4) (x := .tmp 37) ?_); refine zM HM.out.v5 (j := 0) (v := .bool true) _ rfl rfl rfl (by have h9 := HMN.out.lf; rw [HML.out] at h9; simp only [NC.row, <- h9]; rfl) Tryz.underlying4 rfl ?_)
  | ((with_reducible refine zC (ty := 4) (x := .tmp 35) ?_); refine zM HV10.out (j := 0) (v := .bool true) _ rfl rfl rfl (by have h9 := HB.out.lf; rw [HBL.out] at h9; simp only [NC.row, <- h9]; rfl) Tryz.underlying4 rfl ?_)
  | ((with_reducible refine zC (ty := 4) (x := .tmp 37) ?_); refine zM HM.out.v5 (j := 0) (v := .bool false) _ rfl rfl rfl (by have h9 := HMN.out.lf; rw [HML.out] at h9; simp only [NC.row, <- h9]; rfl) Tryz.underlying4 rfl ?_)
  | fail)
 exact bodyPost_ret (kU Tryz.results81 _ _ HM.out.v6 rfl) rfl ⟨NC.nil, rfl, fun _ _ => zAb _, HM.out.below⟩) : P := h
set_option maxRecDepth 100000 in
theorem zXm {w : World} {c : NC} {o : OC} {m : NC} {n mt : NT} {a : OpP} {q2 : List Int} {er : Int} (hn : kS w c n) (ho : OkA w o a) (ta : zAf a) (hm : kS w m mt) (hbk : jV a.q = (q2, er)) (hne : (er != 0) = true) : Calls Tryz.prog 81 #[.agg c.row, .agg o.row, .agg m.row] w (zAm w (zeroT, er)) := by
 exact kOr
set_option maxRecDepth 100000 in
theorem kBl {w : World} {c : NC} {o : OC} {m : NC} {n mt : NT} {a : OpP} {q2 : List Int} {b : NT} (hn : kS w c n) (ho : OkA w o a) (ta : zAf a) (hm : kS w m mt) (hbk : jV a.q = (q2, 0)) (hin : InI q2) (hql : q2.length <= 1000) (hgb : zGm n q2 = (b, 0)) (hbl : b.lf = true) (hml : mt.lf = false) : Calls Tryz.prog 81 #[.agg c.row, .agg o.row, .agg m.row] w (zAm w (zeroT, 7)) := by
 exact kOr
set_option maxRecDepth 100000 in
theorem kBm {w : World} {c : NC} {o : OC} {m : NC} {n mt : NT} {a : OpP} {q2 : List Int} {b : NT} (hn : kS w c n) (ho : OkA w o a) (ta : zAf a) (hm : kS w m mt) (hbk : jV a.q = (q2, 0)) (hin : InI q2) (hql : q2.length <= 1000) (hgb : zGm n q2 = (b, 0)) (hbl : b.lf = false) (hml : mt.lf = true) : Calls Tryz.prog 81 #[.agg c.row, .agg o.row, .agg m.row] w (zAm w (zeroT, 7)) := by
 exact kOr
theorem kPm {P : Prop} (h : P := by
 have HBK := hd hbk
 have HIN := hd hin
 have HQL := hd hql
 have HGB := hd hgb
 have HBL := hd hbl
 have HML := hd hml
 have HLB := hd hlb
 have HN := hd hn
 have HO := hd ho
 have HTA := hd ta
 have HMN := hd hm
 clear hn ho ta hm hbk hin hql hgb hbl hml hlb
 obtain ⟨W0, hW, hst⟩ := jM w c o m
 have HW := hd hW
 have HM := hd hst
 clear hW hst
 go_enter Tryz.func81, Tryz.ntmps81
 go_upto_region 1 with fail
 rw [HW.out]
 clear HW
 go_upto_region 9 with (first
  | ((with_reducible refine zC (ty := 27) (x := .tmp 14) ?_); refine zE HM.out.v4 (j := 1) (v := .slice o.Q o.lq o.cq) _ rfl rfl rfl rfl Tryz.underlying27 rfl ?_)
  | (go_at_call 117; refine Calls.mono (zI7 (HO.out.later HM.out.below) HTA.out HBK.out) ?_; rintro e w2 ⟨A2, l2, c2, rfl, hl2, hc2, hi2, b9⟩; have HQ2 := hd (show Pth _ w2 A2 l2 c2 q2 w2 from ⟨hl2, by have h5 := HQL.out; have h6 : q2.length = l2 := hl2; omega, hc2, HIN.out, hi2, zA5.refl _ _⟩); have hlo2 := HM.out.v6.lt; have HM := hd (HM.out.call b9); have hlt2 := HM.out.v6.lt; clear b9 hl2 hc2 hi2; dsimp only)
  | ((with_reducible refine zC (ty := 26) (x := .tmp 3) ?_); refine zB zD HM.out.v3 rfl _ rfl rfl rfl ?_)
  | (go_at_call 30; refine Calls.mono (zHl (HN.out.later HM.out.below) HQ2.out.has HGB.out) ?_; rintro e w4 h4; obtain ⟨cb, db, us, rfl, htop, hst, b9⟩ := h4.top; have HTOP := hd htop; have HB := hd hst.now; have HM := hd (HM.out.call b9); have HQ2 := hd (HQ2.out.call b9); have hlt4 := HM.out.v6.lt; have hb24 := b9.size; clear b9 htop hst; dsimp only)
  | ((with_reducible refine zF (ty := 26) (x := .tmp 10) ?_); refine zA zD (r0 := NC.nil.row) (r := cb.row) (zAr w4).1 rfl rfl cb.one _ _ rfl rfl rfl rfl rfl ?_; intro W5 hv ho; have HV10 := hd hv; have HI := hd (((zA5.refl w2.heap.size w4).call (zAr w4).2).off2 ho (by omega)); have HB := hd (HB.out.later2 (zAr w4).2 ho (Nat.le_refl _)); have HQ2 := hd ((HQ2.out.call (zAr w4).2).off ho (by omega)); have HM := hd ((HM.out.call (zAr w4).2).off (by omega) ho); clear hv ho)
  | ((with_reducible refine zC (ty := 4) (x := .tmp 35) ?_); refine zM HV10.out (j := 0) (v := .bool false) _ rfl rfl rfl (by have h9 := HB.out.lf; rw [HBL.out] at h9; simp only [NC.row, <- h9]; rfl) Tryz.underlying4 rfl ?_)
  | ((with_reducible refine zC (ty := 4) (x := .tmp 37) ?_); refine zM HM.out.v5 (j := 0) (v := .bool false) _ rfl rfl rfl (by have h9 := HMN.out.lf; rw [HML.out] at h9; simp only [NC.row, <- h9]; rfl) Tryz.underlying4 rfl ?_)
  | ((with_reducible refine zC (ty := 4) (x := .tmp 35) ?_); refine zM HV10.out (j := 0) (v := .bool true) _ rfl rfl rfl (by have h9 := HB.out.lf; rw [HBL.out] at h9; simp only [NC.row, <- h9]; rfl) Tryz.underlying4 rfl ?_)
  | ((with_reducible refine zC (ty := 4) (x := .tmp 37) ?_); refine zM HM.out.v5 (j := 0) (v := .bool true) _ rfl rfl rfl (by have h9 := HMN.out.lf; rw [HML.out] at h9; simp only [NC.row, <- h9]; rfl) Tryz.underlying4 rfl ?_)
  | fail)
 obtain ⟨g10, hg10⟩ : ∃ g, w4.heap.size = g := ⟨_, rfl⟩
 have hg10le : w4.heap.size <= g10 := by omega
 rw [hg10] at HV10
 try rw [hg10]
 clear hg10
 have HM := hd (HM.out.call ((Below.refl _ _).drew))
 have HV10 := hd (HV10.out.keep ((Below.refl _ _).drew))
 have HQ2 := hd (HQ2.out.call ((Below.refl _ _).drew))
 have HI := hd (HI.out.call ((Below.refl _ _).drew))
 have HB := hd (HB.out.later ((Below.refl _ _).drew))
 refine jO (S := fun W' => jR W' (w.heap.size + 1) o /\ jT 26 W' g10 cb.row) (z := fun _ => false) (by kernel_rfl) ?_
 have HSS := hd (And.intro HM.out.v4 HV10.out)
 refine zH (i := 0) (n := 5) (.pointer (some ⟨w.heap.size + 1, 3, none⟩)) rfl (by kernel_rfl) (by kernel_rfl) (by kernel_rfl) (by kernel_rfl) (fun _ _ _ h => h) (by kernel_rfl) (fun W9 hW9 => ?_) HSS.out ?_
 ·go_simp
 simp only [Act.put, List.getElem_toArray, List.getElem_cons_zero, List.setIfInBounds_toArray, List.set_cons_succ, List.set_cons_zero]
 refine zH (i := 1) (n := 4) (.int .i64 o.z) rfl (by kernel_rfl) (by kernel_rfl) (by kernel_rfl) (by kernel_rfl) (fun _ _ _ h => h) (by kernel_rfl) (fun W9 hW9 => ?_) HSS.out ?_
 ·exact kV (j := 3) hW9.1.toR _ rfl rfl rfl Tryz.underlying3 rfl
 refine kNi ?_
 refine zH (i := 2) (n := 3) (.agg cb.row) rfl (by kernel_rfl) (by kernel_rfl) (by kernel_rfl) (by kernel_rfl) (fun _ _ _ h => h) (by kernel_rfl) (fun W9 hW9 => ?_) HSS.out ?_
 ·exact zS zD hW9.2 rfl _ rfl rfl
 refine kNi ?_
 refine kJ (i := 3) (n := 2) (by kernel_rfl) rfl (fun K hK => ?_)
 rw [if_pos (by kernel_rfl)]
 go_simp
 go_at_call 127
 refine (zDu (c := cb) HB.out HLB.out).mono ?_
 rintro e w5 ⟨rfl, b9⟩
 have HM := hd (HM.out.call b9)
 have HV10 := hd (HV10.out.keep b9)
 have HQ2 := hd (HQ2.out.call b9)
 have HI := hd (HI.out.call b9)
 clear b9 HSS
 have HSS := hd (And.intro HM.out.v4 HV10.out)
 refine hK _ _ (fun _ => HSS.out) ?_
 clear hK K
 refine zH (i := 4) (n := 1) (.bool true) rfl (by kernel_rfl) (by kernel_rfl) (by kernel_rfl) (by kernel_rfl) (fun _ _ _ h => h) (by kernel_rfl) (fun W9 hW9 => ?_) HSS.out ?_
 ·go_simp
 refine kNi ?_
 refine kJ (i := 5) (n := 0) (by kernel_rfl) rfl (fun K hK => ?_)
 rw [if_pos (by kernel_rfl)]
 go_simp
 refine hK _ _ (fun _ => HSS.out) (zAl (by kernel_rfl) ?_)
 clear hK K HSS
 go_wp2_with (first
  | ((with_reducible refine zF (ty := 26) (x := .tmp 6) ?_); refine zA zD (r0 := NC.nil.row) (r := NC.nil.row) HM.out.v6 rfl rfl NC.nil.one _ _ rfl rfl rfl rfl rfl ?_; intro W7 hv ho; have HM := hd (HM.out.set6 (a' := NC.nil) hv ho); clear hv ho)
  | fail)
 exact bodyPost_ret (kU Tryz.results81 _ _ HM.out.v6 rfl) rfl ⟨NC.nil, rfl, fun _ _ => zAb _, HM.out.below⟩) : P := h
set_option maxRecDepth 100000 in
theorem kE1 {w : World} {c : NC} {o : OC} {m : NC} {n mt : NT} {a : OpP} {q2 : List Int} {b : NT} {E : Int} (hn : kS w c n) (ho : OkA w o a) (ta : zAf a) (hm : kS w m mt) (hbk : jV a.q = (q2, 0)) (hin : InI q2) (hql : q2.length <= 1000) (hgb : zGm n q2 = (b, 0)) (hbl : b.lf = true) (hml : mt.lf = true) (hlb : zXd b = E) (_z1 : (o.z == E) = false) (z2 : (o.z != E) = true) : Calls Tryz.prog 81 #[.agg c.row, .agg o.row, .agg m.row] w (zAm w (zeroT, 8)) := by
 exact kPm
theorem kPn {P : Prop} (h : P := by
 have HBK := hd hbk
 have HIN := hd hin
 have HQL := hd hql
 have HGB := hd hgb
 have HBL := hd hbl
 have HML := hd hml
 have HLB := hd hlb
 have HOP := hd hop
 have HN := hd hn
 have HO := hd ho
 have HTA := hd ta
 have HMN := hd hm
 clear hn ho ta hm hbk hin hql hgb hbl hml hlb hop
 obtain ⟨W0, hW, hst⟩ := jM w c o m
 have HW := hd hW
 have HM := hd hst
 clear hW hst
 go_enter Tryz.func81, Tryz.ntmps81
 go_upto_region 1 with fail
 rw [HW.out]
 clear HW
 go_upto_region 9 with (first
  | ((with_reducible refine zC (ty := 27) (x := .tmp 14) ?_); refine zE HM.out.v4 (j := 1) (v := .slice o.Q o.lq o.cq) _ rfl rfl rfl rfl Tryz.underlying27 rfl ?_)
  | (go_at_call 117; refine Calls.mono (zI7 (HO.out.later HM.out.below) HTA.out HBK.out) ?_; rintro e w2 ⟨A2, l2, c2, rfl, hl2, hc2, hi2, b9⟩; have HQ2 := hd (show Pth _ w2 A2 l2 c2 q2 w2 from ⟨hl2, by have h5 := HQL.out; have h6 : q2.length = l2 := hl2; omega, hc2, HIN.out, hi2, zA5.refl _ _⟩); have hlo2 := HM.out.v6.lt; have HM := hd (HM.out.call b9); have hlt2 := HM.out.v6.lt; clear b9 hl2 hc2 hi2; dsimp only)
  | ((with_reducible refine zC (ty := 26) (x := .tmp 3) ?_); refine zB zD HM.out.v3 rfl _ rfl rfl rfl ?_)
  | (go_at_call 30; refine Calls.mono (zHl (HN.out.later HM.out.below) HQ2.out.has HGB.out) ?_; rintro e w4 h4; obtain ⟨cb, db, us, rfl, htop, hst, b9⟩ := h4.top; have HTOP := hd htop; have HB := hd hst.now; have HM := hd (HM.out.call b9); have HQ2 := hd (HQ2.out.call b9); have hlt4 := HM.out.v6.lt; have hb24 := b9.size; clear b9 htop hst; dsimp only)
  | ((with_reducible refine zF (ty := 26) (x := .tmp 10) ?_); refine zA zD (r0 := NC.nil.row) (r := cb.row) (zAr w4).1 rfl rfl cb.one _ _ rfl rfl rfl rfl rfl ?_; intro W5 hv ho; have HV10 := hd hv; have HI := hd (((zA5.refl w2.heap.size w4).call (zAr w4).2).off2 ho (by omega)); have HB := hd (HB.out.later2 (zAr w4).2 ho (Nat.le_refl _)); have HQ2 := hd ((HQ2.out.call (zAr w4).2).off ho (by omega)); have HM := hd ((HM.out.call (zAr w4).2).off (by omega) ho); clear hv ho)
  | ((with_reducible refine zC (ty := 4) (x := .tmp 35) ?_); refine zM HV10.out (j := 0) (v := .bool false) _ rfl rfl rfl (by have h9 := HB.out.lf; rw [HBL.out] at h9; simp only [NC.row, <- h9]; rfl) Tryz.underlying4 rfl ?_)
  | ((with_reducible refine zC (ty := 4) (x := .tmp 37) ?_); refine zM HM.out.v5 (j := 0) (v := .bool false) _ rfl rfl rfl (by have h9 := HMN.out.lf; rw [HML.out] at h9; simp only [NC.row, <- h9]; rfl) Tryz.underlying4 rfl ?_)
  | ((with_reducible refine zC (ty := 4) (x := .tmp 35) ?_); refine zM HV10.out (j := 0) (v := .bool true) _ rfl rfl rfl (by have h9 := HB.out.lf; rw [HBL.out] at h9; simp only [NC.row, <- h9]; rfl) Tryz.underlying4 rfl ?_)
  | ((with_reducible refine zC (ty := 4) (x := .tmp 37) ?_); refine zM HM.out.v5 (j := 0) (v := .bool true) _ rfl rfl rfl (by have h9 := HMN.out.lf; rw [HML.out] at h9; simp only [NC.row, <- h9]; rfl) Tryz.underlying4 rfl ?_)
  | fail)
 obtain ⟨g10, hg10⟩ : ∃ g, w4.heap.size = g := ⟨_, rfl⟩
 have hg10le : w4.heap.size <= g10 := by omega
 rw [hg10] at HV10
 try rw [hg10]
 clear hg10
 have HM := hd (HM.out.call ((Below.refl _ _).drew))
 have HV10 := hd (HV10.out.keep ((Below.refl _ _).drew))
 have HQ2 := hd (HQ2.out.call ((Below.refl _ _).drew))
 have HI := hd (HI.out.call ((Below.refl _ _).drew))
 have HB := hd (HB.out.later ((Below.refl _ _).drew))
 refine jO (S := fun W' => jR W' (w.heap.size + 1) o /\ jT 26 W' g10 cb.row) (z := fun _ => false) (by kernel_rfl) ?_
 have HSS := hd (And.intro HM.out.v4 HV10.out)
 refine zH (i := 0) (n := 5) (.pointer (some ⟨w.heap.size + 1, 3, none⟩)) rfl (by kernel_rfl) (by kernel_rfl) (by kernel_rfl) (by kernel_rfl) (fun _ _ _ h => h) (by kernel_rfl) (fun W9 hW9 => ?_) HSS.out ?_
 ·go_simp
 simp only [Act.put, List.getElem_toArray, List.getElem_cons_zero, List.setIfInBounds_toArray, List.set_cons_succ, List.set_cons_zero]
 refine zH (i := 1) (n := 4) (.int .i64 o.z) rfl (by kernel_rfl) (by kernel_rfl) (by kernel_rfl) (by kernel_rfl) (fun _ _ _ h => h) (by kernel_rfl) (fun W9 hW9 => ?_) HSS.out ?_
 ·exact kV (j := 3) hW9.1.toR _ rfl rfl rfl Tryz.underlying3 rfl
 refine kNi ?_
 refine zH (i := 2) (n := 3) (.agg cb.row) rfl (by kernel_rfl) (by kernel_rfl) (by kernel_rfl) (by kernel_rfl) (fun _ _ _ h => h) (by kernel_rfl) (fun W9 hW9 => ?_) HSS.out ?_
 ·exact zS zD hW9.2 rfl _ rfl rfl
 refine kNi ?_
 refine kJ (i := 3) (n := 2) (by kernel_rfl) rfl (fun K hK => ?_)
 rw [if_pos (by kernel_rfl)]
 go_simp
 go_at_call 127
 refine (zDu (c := cb) HB.out HLB.out).mono ?_
 rintro e w5 ⟨rfl, b9⟩
 have HM := hd (HM.out.call b9)
 have HV10 := hd (HV10.out.keep b9)
 have HQ2 := hd (HQ2.out.call b9)
 have HI := hd (HI.out.call b9)
 clear b9 HSS
 have HSS := hd (And.intro HM.out.v4 HV10.out)
 refine hK _ _ (fun _ => HSS.out) ?_
 clear hK K
 refine zH (i := 4) (n := 1) (.bool false) rfl (by kernel_rfl) (by kernel_rfl) (by kernel_rfl) (by kernel_rfl) (fun _ _ _ h => h) (by kernel_rfl) (fun W9 hW9 => ?_) HSS.out ?_
 ·go_simp
 refine kNi ?_
 refine kJ (i := 5) (n := 0) (by kernel_rfl) rfl (fun K hK => ?_)
 rw [if_pos (by kernel_rfl)]
 go_simp
 refine hK _ _ (fun _ => HSS.out) (zAl (by kernel_rfl) ?_)
 clear hK K HSS
 go_wp2_with (first
  | ((with_reducible refine zC (ty := 22) (x := .tmp 49) ?_); refine zE HM.out.v4 (j := 8) (v := .slice o.O o.no o.co) _ rfl rfl rfl rfl Tryz.underlying22 rfl ?_)
  | ((with_reducible refine zC (ty := 22) (x := .tmp 51) ?_); refine zM HM.out.v5 (j := 1) (v := .slice m.P m.np m.pc) _ rfl rfl rfl rfl Tryz.underlying22 rfl ?_)
  | (go_at_call 119; refine Calls.mono (zLd (HMN.out.later HM.out.below) (HO.out.later HM.out.below) HOP.out) ?_; rintro e w6 ⟨rfl, b9⟩; have HM := hd (HM.out.call b9); have HV10 := hd (HV10.out.keep b9); have HQ2 := hd (HQ2.out.call b9); have HI := hd (HI.out.call b9); clear b9)
  | ((with_reducible refine zF (ty := 26) (x := .tmp 6) ?_); refine zA zD (r0 := NC.nil.row) (r := NC.nil.row) HM.out.v6 rfl rfl NC.nil.one _ _ rfl rfl rfl rfl rfl ?_; intro W7 hv ho; have HM := hd (HM.out.set6 (a' := NC.nil) hv ho); clear hv ho)
  | fail)
 exact bodyPost_ret (kU Tryz.results81 _ _ HM.out.v6 rfl) rfl ⟨NC.nil, rfl, fun _ _ => zAb _, HM.out.below⟩) : P := h
set_option maxRecDepth 100000 in
theorem kE2 {w : World} {c : NC} {o : OC} {m : NC} {n mt : NT} {a : OpP} {q2 : List Int} {b : NT} {E : Int} (hn : kS w c n) (ho : OkA w o a) (ta : zAf a) (hm : kS w m mt) (hbk : jV a.q = (q2, 0)) (hin : InI q2) (hql : q2.length <= 1000) (hgb : zGm n q2 = (b, 0)) (hbl : b.lf = true) (hml : mt.lf = true) (hlb : zXd b = E) (_z1 : (o.z == E) = true) (z2 : (o.z != E) = false) (hop : decide (a.o = mt.ps) = false) : Calls Tryz.prog 81 #[.agg c.row, .agg o.row, .agg m.row] w (zAm w (zeroT, 9)) := by
 exact kPn
set_option maxRecDepth 100000 in
theorem kE3 {w : World} {c : NC} {o : OC} {m : NC} {n mt : NT} {a : OpP} {q2 : List Int} {b : NT} {E : Int} (hn : kS w c n) (ho : OkA w o a) (ta : zAf a) (hm : kS w m mt) (hbk : jV a.q = (q2, 0)) (hin : InI q2) (hql : q2.length <= 1000) (hgb : zGm n q2 = (b, 0)) (hbl : b.lf = false) (hml : mt.lf = false) (hlb : zXd b = E) (_z1 : (o.z == E) = false) (z2 : (o.z != E) = true) : Calls Tryz.prog 81 #[.agg c.row, .agg o.row, .agg m.row] w (zAm w (zeroT, 8)) := by
 exact kPm
set_option maxRecDepth 100000 in
theorem kE4 {w : World} {c : NC} {o : OC} {m : NC} {n mt : NT} {a : OpP} {q2 : List Int} {b : NT} {E : Int} (hn : kS w c n) (ho : OkA w o a) (ta : zAf a) (hm : kS w m mt) (hbk : jV a.q = (q2, 0)) (hin : InI q2) (hql : q2.length <= 1000) (hgb : zGm n q2 = (b, 0)) (hbl : b.lf = false) (hml : mt.lf = false) (hlb : zXd b = E) (_z1 : (o.z == E) = true) (z2 : (o.z != E) = false) (hop : decide (a.o = mt.ps) = false) : Calls Tryz.prog 81 #[.agg c.row, .agg o.row, .agg m.row] w (zAm w (zeroT, 9)) := by
 exact kPn
end Go.Proofs.YtmkciabefepelaaGreat
