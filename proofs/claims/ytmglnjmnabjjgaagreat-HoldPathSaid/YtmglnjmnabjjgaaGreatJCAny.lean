import Derived.Test.YtmglnjmnabjjgaaGreatJBOpen
set_option maxRecDepth 4000
set_option maxHeartbeats 8000000
namespace Go.Proofs.YtmglnjmnabjjgaaGreat
open Go.RowKit
variable {v:Value}{A:Option Addr}{l:List Int}
section
variable {P:Program}{ops:Array Oper}{Q:Exit->Act->World->Prop}{S:World->Prop}{z:Nat->Bool}
def zCu (P:Program)(ops:Array Oper)(Q:Exit->Act->World->Prop)(S:World->Prop)(z:Nat->Bool):Nat->Array Bool->Act->World->Prop
 |0,listed,a,w=>Region.ready .any ops listed=[]/\Q .normal a w
 |n+1,listed,a,w=>(Region.ready .any ops listed=[]->Q .normal a w)/\
   ∀i ∈ Region.ready .any ops listed,wpOp P ops Q i (fun a' w'=>(z i=false->S w')/\zCu P ops Q S z n (listed.setIfInBounds i true) a' w') a w
theorem zT7 :∀(n:Nat)(listed:Array Bool)(a:Act)(w:World),zCu P ops Q S z n listed a w->wpAny P .any ops Q n listed a w
 |0,_,_,_,h=>h
 |n+1,_,_,_,h=>⟨h.1,fun i hi=>wpOp_mono (fun a' w' h'=>zT7 n _ a' w' h'.2) (h.2 i hi)⟩
def zT8 (ops:Array Oper)(z:Nat->Bool)(i:Nat):Bool:=(List.range ops.size).all fun j=> !z j||match ops[j]? with
 |some o=>o.after.toList.any fun e=>Region.binds .any e&&e.on==i
 |none=>false
theorem kB8 {i j:Nat}{o:Oper}(h:zT8 ops z i=true)(hj:ops[j]? =some o)(hz:z j=true):∃e ∈ o.after,Region.binds .any e=true/\e.on=i:=by
 have hl:=(Array.getElem?_eq_some_iff.1 hj).1;have h1:=List.all_eq_true.1 h j (List.mem_range.2 hl);rw[hz,hj]at h1;simp only[Bool.not_true,Bool.false_or]at h1;obtain⟨x,hx,hx2⟩:=List.any_eq_true.1 h1;simp only[Bool.and_eq_true,beq_iff_eq]at hx2;exact⟨x,by simpa using hx,hx2.1,hx2.2⟩
theorem zX2 {i:Nat}{oi:Oper}(hi:ops[i]? =some oi)(eP:Region.noSelect ops=true)(hz:zT8 ops z i=true)
  (hQ:∀c a w,Q (.panic c) (a.put oi.dst v) w->Q (.panic c) a w):
  ∀(n:Nat)(listed:Array Bool)(a:Act)(w:World),
   (∀j oj,ops[j]? =some oj->j≠i->listed.getD j true=false->(∀e ∈ oj.after,Region.binds .any e=true->e.on≠i)->oi.apart ops oj=true)->
   i ∈ Region.ready .any ops listed->YieldsIf P ops S oi v a->S w->
   zCu P ops Q S z n (listed.setIfInBounds i true) (a.put oi.dst v) w->zCu P ops Q S z (n+1) listed a w:=by
 have sel:=Region.noSelect_spec eP;intro n;induction n with
 |zero=>
  intro listed a w _ hr hy hS H;refine⟨fun h=>absurd hr (by rw[h];simp),fun j hj=>?_⟩;rcases Classical.em (j=i)with e|e
  ·subst e;exact hy.wpOp hi hS ⟨fun _=>hS,H⟩
  ·have:=ready_mono hj e;rw[H.1]at this;cases this
 | succ n ih=>
  intro listed a w hfree hr hy hS H;refine⟨fun h=>absurd hr (by rw[h];simp),fun j hj=>?_⟩;rcases Classical.em (j=i)with e|e
  ·subst e;exact hy.wpOp hi hS ⟨fun _=>hS,H⟩
  ·obtain⟨cG,oj,dv,hall⟩:=mem_ready.1 hj;have cH:=(mem_ready.1 hr).1;have hno:∀e ∈ oj.after,Region.binds .any e=true->e.on≠i:=fun x hx hb heq=>by
    have h1:=hall x hx hb;rw[heq]at h1;rcases Nat.lt_or_ge i listed.size with h'|h'
    ·simp[h']at cH h1;rw[cH]at h1;cases h1
    ·simp[Array.getElem?_eq_none h']at h1
   have xf:z j=false:=by
    cases ez:z j with
    |false=>rfl
    |true=>
     obtain⟨x,hx,hx2,hx3⟩:=kB8 hz dv ez;exact absurd hx3 (hno x hx hx2)
   have h2:=wpOp_putIf dv (hfree j oj dv e cG hno) (fun cs b=>sel i oi cs b hi) (fun cs b=>sel j oj cs b dv) hQ hy (H.2 j (ready_mono hj e));refine wpOp_mono (fun a' w' h3=>⟨h3.2.1,ih (listed.setIfInBounds j true) a' w' (fun k ok hk ni hun hn=>hfree k ok hk ni ?_ hn) (ready_mono hr (Ne.symm e)) h3.1 (h3.2.1 xf) ?_⟩) h2
   ·rcases Classical.em (j=k)with ek|ek
    ·subst ek;exact cG
    ·rw[getD_set_ne true ek]at hun;exact hun
   ·rw[Array.setIfInBounds_comm _ _ e];exact h3.2.2
theorem kJn {i:Nat}{oi:Oper}(vg:z i=true)(hi:ops[i]? =some oi)(eP:Region.noSelect ops=true)
  (hQ:∀c a w,Q (.panic c) (a.put oi.dst v) w->Q (.panic c) a w):
  ∀(n:Nat)(listed:Array Bool)(a:Act)(w:World),
   (∀j oj,ops[j]? =some oj->j≠i->listed.getD j true=false->(∀e ∈ oj.after,Region.binds .any e=true->e.on≠i)->oi.apart ops oj=true)->
   i ∈ Region.ready .any ops listed->YieldsIf P ops (fun _=>True) oi v a->
   zCu P ops Q S z n (listed.setIfInBounds i true) (a.put oi.dst v) w->zCu P ops Q S z (n+1) listed a w:=by
 have sel:=Region.noSelect_spec eP;intro n;induction n with
 |zero=>
  intro listed a w _ hr hy H;refine⟨fun h=>absurd hr (by rw[h];simp),fun j hj=>?_⟩;rcases Classical.em (j=i)with e|e
  ·subst e;exact hy.wpOp hi trivial ⟨fun h=>absurd (vg.symm.trans h) Kc,H⟩
  ·have:=ready_mono hj e;rw[H.1]at this;cases this
 | succ n ih=>
  intro listed a w hfree hr hy H;refine⟨fun h=>absurd hr (by rw[h];simp),fun j hj=>?_⟩;rcases Classical.em (j=i)with e|e
  ·subst e;exact hy.wpOp hi trivial ⟨fun h=>absurd (vg.symm.trans h) Kc,H⟩
  ·obtain⟨cG,oj,dv,hall⟩:=mem_ready.1 hj;have cH:=(mem_ready.1 hr).1;have hno:∀e ∈ oj.after,Region.binds .any e=true->e.on≠i:=fun x hx hb heq=>by
    have h1:=hall x hx hb;rw[heq]at h1;rcases Nat.lt_or_ge i listed.size with h'|h'
    ·simp[h']at cH h1;rw[cH]at h1;cases h1
    ·simp[Array.getElem?_eq_none h']at h1
   have h2:=wpOp_putIf dv (hfree j oj dv e cG hno) (fun cs b=>sel i oi cs b hi) (fun cs b=>sel j oj cs b dv) hQ hy (H.2 j (ready_mono hj e));refine wpOp_mono (fun a' w' h3=>⟨h3.2.1,ih (listed.setIfInBounds j true) a' w' (fun k ok hk ni hun hn=>hfree k ok hk ni ?_ hn) (ready_mono hr (Ne.symm e)) h3.1 ?_⟩) h2
   ·rcases Classical.em (j=k)with ek|ek
    ·subst ek;exact cG
    ·rw[getD_set_ne true ek]at hun;exact hun
   ·rw[Array.setIfInBounds_comm _ _ e];exact h3.2.2
theorem zH {i:Nat}{oi:Oper}(v:Value){n:Nat}{listed:Array Bool}{a:Act}{w:World}(hi:ops[i]? =some oi)(hs:Region.noSelect ops=true)(hz:zT8 ops z i=true)(hf:Region.free .any ops listed i=true)(hr:(Region.ready .any ops listed).contains i=true)
  (hQ:∀c a w,Q (.panic c) (a.put oi.dst v) w->Q (.panic c) a w) (hw:Region.wanted oi (yielded ops a.tmps)=true) (hy:∀w,S w->(execOp a.eval oi).run P w=.ok (.value v) w) (hS:S w)
  (h:zCu P ops Q S z n (listed.setIfInBounds i true) (a.put oi.dst v) w):zCu P ops Q S z (n+1) listed a w:=
 zX2 hi hs hz hQ n listed a w (Region.free_spec hi hf) (by simpa using hr) (.inl ⟨hw,hy⟩) hS h
theorem Ko {oi:Oper}(i n:Nat)(v:Value){listed:Array Bool}{a:Act}{w:World}(hy:∀w,S w->(execOp a.eval oi).run P w=.ok (.value v) w)(hS:S w)(h:zCu P ops Q S z n (listed.setIfInBounds i true) (a.put oi.dst v) w)(hi:ops[i]? =some oi:=by exact rfl)(hs:Region.noSelect ops=true:=by kernel_rfl)(hz:zT8 ops z i=true:=by kernel_rfl)(hf:Region.free .any ops listed i=true:=by kernel_rfl)(hr:(Region.ready .any ops listed).contains i=true:=by kernel_rfl)(hQ:∀c a w,Q (.panic c) (a.put oi.dst v) w->Q (.panic c) a w:=by exact fun _ _ _ h=>h)(hw:Region.wanted oi (yielded ops a.tmps)=true:=by first|kernel_rfl|rfl):zCu P ops Q S z (n+1) listed a w:=
 zH v hi hs hz hf hr hQ hw hy hS h
theorem Kp {oi:Oper}(i n:Nat)(v:Value){listed:Array Bool}{a:Act}{w:World}(hS:S w)(h:zCu P ops Q S z n (listed.setIfInBounds i true) (a.put oi.dst v) w)(hi:ops[i]? =some oi:=by exact rfl)(hy:∀w,S w->(execOp a.eval oi).run P w=.ok (.value v) w:=by intro _ _;go_simp)(hs:Region.noSelect ops=true:=by kernel_rfl)(hz:zT8 ops z i=true:=by kernel_rfl)(hf:Region.free .any ops listed i=true:=by kernel_rfl)(hr:(Region.ready .any ops listed).contains i=true:=by kernel_rfl)(hQ:∀c a w,Q (.panic c) (a.put oi.dst v) w->Q (.panic c) a w:=by exact fun _ _ _ h=>h)(hw:Region.wanted oi (yielded ops a.tmps)=true:=by first|kernel_rfl|rfl):zCu P ops Q S z (n+1) listed a w:=
 zH v hi hs hz hf hr hQ hw hy hS h
theorem zDd {i:Nat}{oi:Oper}(v:Value){n:Nat}{listed:Array Bool}{a:Act}{w:World}(vg:z i=true)(hi:ops[i]? =some oi)(hs:Region.noSelect ops=true)(hf:Region.free .any ops listed i=true)(hr:(Region.ready .any ops listed).contains i=true)
  (hQ:∀c a w,Q (.panic c) (a.put oi.dst v) w->Q (.panic c) a w) (hw:Region.wanted oi (yielded ops a.tmps)=true) (hy:∀w,(execOp a.eval oi).run P w=.ok (.value v) w)
  (h:zCu P ops Q S z n (listed.setIfInBounds i true) (a.put oi.dst v) w):zCu P ops Q S z (n+1) listed a w:=
 kJn vg hi hs hQ n listed a w (Region.free_spec hi hf) (by simpa using hr) (.inl ⟨hw,fun w _=>hy w⟩) h
theorem kB9 {i j:Nat}{o p:Oper}{n:Nat}{listed:Array Bool}{a:Act}{w:World}(hr:Region.ready .any ops listed=[i,j])(hi:ops[i]? =some o)(hj:ops[j]? =some p)
  (h:∀K:Act->World->Prop,(∀a' w',(z i=false->S w')->zCu P ops Q S z n (listed.setIfInBounds i true) a' w'->K a' w')->if Region.wanted o (yielded ops a.tmps)=true then Oper.wp P o a w K Q else False)
  (h':∀K:Act->World->Prop,(∀a' w',(z j=false->S w')->zCu P ops Q S z n (listed.setIfInBounds j true) a' w'->K a' w')->if Region.wanted p (yielded ops a.tmps)=true then Oper.wp P p a w K Q else False):zCu P ops Q S z (n+1) listed a w:=by
 refine⟨fun e=>absurd (e.symm.trans hr) Kc,fun k hk=>?_⟩;rw[hr]at hk;rcases List.mem_cons.1 hk with rfl|hk
 ·have h1:=h (fun a' w'=>(z k=false->S w')/\zCu P ops Q S z n (listed.setIfInBounds k true) a' w') (fun a' w' h1 h2=>⟨h1,h2⟩);unfold wpOp;simp only[hi];split
  ·rename_i hw
   rw[if_pos hw]at h1;exact .inl h1
  ·rename_i hw
   rw[if_neg hw]at h1;exact h1.elim
 ·rw[List.mem_singleton]at hk;subst hk;have h1:=h' (fun a' w'=>(z k=false->S w')/\zCu P ops Q S z n (listed.setIfInBounds k true) a' w') (fun a' w' h1 h2=>⟨h1,h2⟩);unfold wpOp;simp only[hj];split
  ·rename_i hw
   rw[if_pos hw]at h1;exact .inl h1
  ·rename_i hw
   rw[if_neg hw]at h1;exact h1.elim
theorem kJ {i:Nat}{o:Oper}{n:Nat}{listed:Array Bool}{a:Act}{w:World}(hr:Region.ready .any ops listed=[i])(hi:ops[i]? =some o)
  (h:∀K:Act->World->Prop,(∀a' w',(z i=false->S w')->zCu P ops Q S z n (listed.setIfInBounds i true) a' w'->K a' w')->if Region.wanted o (yielded ops a.tmps)=true then Oper.wp P o a w K Q else False):zCu P ops Q S z (n+1) listed a w:=by
 refine⟨fun e=>absurd (e.symm.trans hr) Kc,fun j hj=>?_⟩;rw[hr,List.mem_singleton]at hj;subst hj;have h1:=h (fun a' w'=>(z j=false->S w')/\zCu P ops Q S z n (listed.setIfInBounds j true) a' w') (fun a' w' h1 h2=>⟨h1,h2⟩);unfold wpOp;simp only[hi];split
 ·rename_i hw
  rw[if_pos hw]at h1;exact .inl h1
 ·rename_i hw
  rw[if_neg hw]at h1;exact h1.elim
theorem Kq {o:Oper}(i n:Nat){listed:Array Bool}{a:Act}{w:World}(h:∀K:Act->World->Prop,(∀a' w',(z i=false->S w')->zCu P ops Q S z n (listed.setIfInBounds i true) a' w'->K a' w')->if Region.wanted o (yielded ops a.tmps)=true then Oper.wp P o a w K Q else False)(hr:Region.ready .any ops listed=[i]:=by kernel_rfl)(hi:ops[i]? =some o:=by exact rfl):zCu P ops Q S z (n+1) listed a w:=kJ hr hi h
theorem zAl {n:Nat}{listed:Array Bool}{a:Act}{w:World}(hr:Region.ready .any ops listed=[])(h:Q .normal a w):zCu P ops Q S z n listed a w:=by
 cases n with
 |zero=>exact⟨hr,h⟩
 |succ n=>exact⟨fun _=>h,by rw[hr];simp⟩
theorem jO {id:Nat}{a:Act}{w:World}(hm:P.follows .mixedOrders=true)(h:zCu P ops Q S z ops.size (Array.replicate ops.size false) a w.drew):(Code.region id ops true).wp P Q a w:=
 wp_region_any hm (zT7 _ _ _ _ h)
end
open Go.WideShapes (add_plain)
structure zA5 (lo:Nat)(w w':World):Prop where
 size:w.heap.size<=w'.heap.size
 block:∀k,lo<=k->k<w.heap.size->w'.heap[k]? =w.heap[k]?
theorem zA5.refl (lo:Nat)(w:World):zA5 lo w w:=⟨Nat.le_refl _,fun _ _ _=>rfl⟩
theorem zA5.trans {lo:Nat}{a b c:World}(h:zA5 lo a b)(k:zA5 lo b c):zA5 lo a c:=⟨Nat.le_trans h.size k.size,fun i h1 h2=>(k.block i h1 (Nat.lt_of_lt_of_le h2 h.size)).trans (h.block i h1 h2)⟩
theorem zA5.below {lo:Nat}{w w':World}(h:Below w.heap.size w w'):zA5 lo w w':=⟨h.size,fun k _ hk=>h.block k hk⟩
theorem zA5.off {lo g:Nat}{w w':World}(h:Off g w w')(hg:g<lo):zA5 lo w w':=⟨h.size,fun k h1 h2=>h.block k h2 Kb⟩
theorem zA5.mono {lo lo':Nat}{w w':World}(h:zA5 lo w w')(hl:lo<=lo'):zA5 lo' w w':=⟨h.size,fun k h1 h2=>h.block k (Nat.le_trans hl h1) h2⟩
theorem zA5.cell {lo:Nat}{w w':World}(h:zA5 lo w w'){p:Addr}(h1:lo<=p.block)(h2:p.block<w.heap.size):w'.cell? p=w.cell? p:=World.cell?_of_block (h.block p.block h1 h2)
theorem zA5.frozen {lo:Nat}{w w':World}(h:zA5 lo w w'){p:Addr}(h1:lo<=p.block)(h2:p.block<w.heap.size):w'.frozen? p=w.frozen? p:=World.frozen?_of_block (h.block p.block h1 h2)
def zH3 (lo:Nat)(w:World)(P:World->Prop):Prop:=∀w',zA5 lo w w'->P w'
theorem zH3.high {lo:Nat}{w w':World}{P:World->Prop}(h:zH3 lo w P)(ho:zA5 lo w w'):zH3 lo w' P:=fun w2 h2=>h w2 (ho.trans h2)
theorem zH3.more {lo lo':Nat}{w:World}{P:World->Prop}(h:zH3 lo w P)(hl:lo'<=lo):zH3 lo' w P:=fun w2 h2=>h w2 (h2.mono hl)
structure Mid (lo hi:Nat)(w w':World):Prop where
 size:w.heap.size<=w'.heap.size
 block:∀k,lo<=k->k<hi->w'.heap[k]? =w.heap[k]?
theorem Mid.refl (lo hi:Nat)(w:World):Mid lo hi w w:=⟨Nat.le_refl _,fun _ _ _=>rfl⟩
theorem Mid.below {lo hi:Nat}{w W W':World}(h:Mid lo hi w W)(hb:Below W.heap.size W W')(hh:hi<=W.heap.size):Mid lo hi w W':=⟨Nat.le_trans h.size hb.size,fun k h1 h2=>(hb.block k Kb).trans (h.block k h1 h2)⟩
theorem Mid.off {lo hi g:Nat}{w W W':World}(h:Mid lo hi w W)(ho:Off g W W')(hh:hi<=W.heap.size)(hg:g<lo∨hi<=g):Mid lo hi w W':=⟨Nat.le_trans h.size ho.size,fun k h1 h2=>(ho.block k Kb Kb).trans (h.block k h1 h2)⟩
theorem Mid.high {lo:Nat}{w W W':World}(h:Mid lo w.heap.size w W)(hh:zA5 lo W W'):zA5 lo w W':=⟨Nat.le_trans h.size hh.size,fun k h1 h2=>(hh.block k h1 (Nat.lt_of_lt_of_le h2 h.size)).trans (h.block k h1 h2)⟩
def kLw (w:World)(a:OpP)(e:Ending)(w':World):Prop:=∃c,e=.returned (.agg (OC.row c))/\zH3 w.heap.size w' (fun W=>OkA W c a)/\Below w.heap.size w w'
def zIn (w:World)(r:OpP×Int)(e:Ending)(w':World):Prop:=∃c,e=.returned (.tuple #[.agg (OC.row c),.int .i64 r.2])/\zH3 w.heap.size w' (fun W=>OkA W c r.1)/\Below w.heap.size w w'
theorem zH3.now {lo:Nat}{w:World}{P:World->Prop}(h:zH3 lo w P):P w:=h w (zA5.refl _ _)
def kLx (w:World)(n:Nat)(P:World->Option Addr->Prop)(e:Ending)(w':World):Prop:=
 ∃A c,e=.returned (.slice A n c)/\n<=c/\zH3 w.heap.size w' (fun W=>P W A)/\Below w.heap.size w w'
theorem IL.high {lo:Nat}{w w':World}(h:IL w w.heap.size A l)(hA:∀b o,A=some ⟨b,o,none⟩->lo<=b)(ho:zA5 lo w w'):IL w' w'.heap.size A l:=fun hn=>by
 obtain⟨b,o,e,hb,hc⟩:=h hn;exact⟨b,o,e,Nat.lt_of_lt_of_le hb ho.size,fun k hk=>(ho.cell (p:=⟨b,o+k,none⟩) (hA b o e) hb).trans (hc k hk)⟩
theorem zI6 {w:World}{B n c:Nat}(ho:zBt w B (.slice A n c) l):zH3 B w (fun W=>IL W W.heap.size A l):=fun W hoff=>by
 have hown:=ho.own;obtain⟨A',c',e0,h1,_,h2⟩:=ho.open_;injection e0 with e1 _ _;subst e1;refine h2.high (fun b o e=>?_) hoff;rcases hown.2 with⟨e1,_⟩|⟨g',cap,cur,e1,hbg,_⟩
 ·injection e1 with e1;rw[e]at e1;cases e1
 ·injection e1 with e1;rw[e]at e1;injection e1 with e1;injection e1 with e2;omega
theorem zFz (A:Option Addr)(l:List Int)(n c:Nat)(w:World)(hn:l.length=n)(hl:n<=1000)(hp:IL w w.heap.size A l):
  Calls Tryz.prog 77 #[.slice A n c] w (kLx w n (fun W A'=>IL W W.heap.size A' l)):=by
 refine(kAm A l n c w hn hl hp).mono ?_;rintro e w' ⟨v,rfl,ho,hb⟩;have hown:=ho.own;obtain⟨A',c',rfl,h1,_,h2⟩:=ho.open_;subst hn;refine⟨A',c',rfl,h1,fun W' hoff=>h2.high (fun b o e=>?_) hoff,hb⟩;rcases hown.2 with⟨e1,_⟩|⟨g',cap,cur,e1,hbg,_⟩
 ·injection e1 with e1;rw[e]at e1;cases e1
 ·injection e1 with e1;rw[e]at e1;injection e1 with e1;injection e1 with e2;omega
theorem zQe (A:Option Addr)(l:List Pr)(n c:Nat)(w:World)(hn:l.length=n)(hl:n<=4398046511104)(hp:PL w w.heap.size A l):
  Calls Tryz.prog 138 #[.slice A n c] w (kLx w n (fun W A'=>PL W W.heap.size A' l)):=by
 subst hn;have hv:VL w w.heap.size A (pv l):=hp.vl;have HV:=hd hv;clear hp hv;rcases A with _|a
 ·have hnil:=fun W=>Go.Lib.run_eql_slice_nil (P:=Tryz.prog) W 22 103 none l.length c 0 0 Tryz.underlying22;have HL:=hd (show l=[] by
   rcases Classical.em (l=[])with h|h
   ·exact h
   ·obtain⟨_,_,h,_⟩:=HV.o (by intro e;have:=congrArg List.length e;rw[zN8]at this;exact h (by first|exact List.eq_nil_of_length_eq_zero (by simp at this;omega)|(simp at this;exact this)));cases h)
  go_enter Tryz.func138,Tryz.ntmps138
  go_wp2
  go_ret
  refine⟨none,0,by rw[HL.o];rfl,by rw[HL.o];simp,fun W' ho=>?_,Below.refl _ _⟩;rw[HL.o];first|exact PL.none _ _ _|exact VL.nil _ _ _
 ·have hnil:=fun W=>Go.Lib.run_eql_slice_nil (P:=Tryz.prog) W 22 103 (some a) l.length c 0 0 Tryz.underlying22;go_enter Tryz.func138,Tryz.ntmps138
  go_wp2_with(at_builtin;refine zBr zZh _ rfl (.tmp 5) (.tmp 6) rfl w.heap.size (.slice (some ⟨w.heap.size,0,none⟩) 0 0) 0 [] rfl (World.ownsRow_made w #[] 0 Km Kg Kc) (some a) l.length c w.heap.size (pv l) rfl (by rw[zN8]<;>omega) (HV.o.below (Kl.alloc Km _)) (zZg l) Kg Kb Kc rfl ?_;intro g cap w1 aQ hg1)
  go_ret
  rw[Nat.zero_add,List.nil_append]at aQ;have h1:=zHn aQ;have hb1:Below w.heap.size w w1:=(Kl.alloc Km _).grown hg1 Kc (fun j hj=>by simp[Value.ownBlock]at hj;omega);refine⟨some ⟨g,0,none⟩,cap,rfl,h1.2.2.2,fun W' ho=>?_,hb1⟩;have hvp:VP (fun b=>b<W'.heap.size) W' (some ⟨g,0,none⟩) (pv l):=fun k u hu=>by
   have hf:=h1.2.2.1 k u hu;exact⟨g,0,rfl,Nat.lt_of_lt_of_le h1.2.1 ho.size,by rw[Nat.zero_add];exact⟨(ho.cell (p:=⟨g,k,none⟩) h1.1 h1.2.1).trans hf.1,(ho.frozen (p:=⟨g,k,none⟩) h1.1 h1.2.1).trans hf.2⟩⟩
  exact hvp.pl (fun b hb=>hb)
theorem zX3 (A:Option Addr)(l:List Int)(n c:Nat)(w:World)(hn:l.length=n)(hl:n<=35184372088832)(hp:VL w w.heap.size A (rv l)):
  Calls Tryz.prog 139 #[.slice A n c] w (kLx w n (fun W A'=>VL W W.heap.size A' (rv l))):=by
 subst hn;have hv:VL w w.heap.size A (rv l):=hp;have HV:=hd hv;clear hp hv;rcases A with _|a
 ·have hnil:=fun W=>Go.Lib.run_eql_slice_nil (P:=Tryz.prog) W 23 21 none l.length c 0 0 Tryz.underlying23;have HL:=hd (show l=[] by
   rcases Classical.em (l=[])with h|h
   ·exact h
   ·obtain⟨_,_,h,_⟩:=HV.o (by intro e;have:=congrArg List.length e;rw[zCg]at this;exact h (by first|exact List.eq_nil_of_length_eq_zero (by simp at this;omega)|(simp at this;exact this)));cases h)
  go_enter Tryz.func139,Tryz.ntmps139
  go_wp2
  go_ret
  refine⟨none,0,by rw[HL.o];rfl,by rw[HL.o];simp,fun W' ho=>?_,Below.refl _ _⟩;rw[HL.o];first|exact PL.none _ _ _|exact VL.nil _ _ _
 ·have hnil:=fun W=>Go.Lib.run_eql_slice_nil (P:=Tryz.prog) W 23 21 (some a) l.length c 0 0 Tryz.underlying23;go_enter Tryz.func139,Tryz.ntmps139
  go_wp2_with(at_builtin;refine zBr zTa _ rfl (.tmp 5) (.tmp 6) rfl w.heap.size (.slice (some ⟨w.heap.size,0,none⟩) 0 0) 0 [] rfl (World.ownsRow_made w #[] 0 Km Kg Kc) (some a) l.length c w.heap.size (rv l) rfl (by rw[zCg]<;>omega) (HV.o.below (Kl.alloc Km _)) (zNz l) Kg Kb Kc rfl ?_;intro g cap w1 aQ hg1)
  go_ret
  rw[Nat.zero_add,List.nil_append]at aQ;have h1:=zHn aQ;have hb1:Below w.heap.size w w1:=(Kl.alloc Km _).grown hg1 Kc (fun j hj=>by simp[Value.ownBlock]at hj;omega);refine⟨some ⟨g,0,none⟩,cap,rfl,h1.2.2.2,fun W' ho=>?_,hb1⟩;have hvp:VP (fun b=>b<W'.heap.size) W' (some ⟨g,0,none⟩) (rv l):=fun k u hu=>by
   have hf:=h1.2.2.1 k u hu;exact⟨g,0,rfl,Nat.lt_of_lt_of_le h1.2.1 ho.size,by rw[Nat.zero_add];exact⟨(ho.cell (p:=⟨g,k,none⟩) h1.1 h1.2.1).trans hf.1,(ho.frozen (p:=⟨g,k,none⟩) h1.1 h1.2.1).trans hf.2⟩⟩
  exact hvp.vl (fun b hb=>hb)
