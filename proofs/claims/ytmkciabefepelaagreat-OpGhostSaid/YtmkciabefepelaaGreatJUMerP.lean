import Derived.Test.YtmkciabefepelaaGreatJUTxt
import Derived.Test.YtmkciabefepelaaGreatJNTopO
set_option maxRecDepth 100000
set_option maxHeartbeats 8000000
namespace Go.Proofs.YtmkciabefepelaaGreat
open Go.RowKit
variable {P:Prop}{r:NT×Int}{W W5 W8 w w' w4:World}{c m:NC}{b mt n:NT}{c' d g:Nat}{us:List Value}{A':Option Addr}{cs:Array Value}{fr:Nat×Nat}{a:OpP}{q2:List Int}{E:Int}
structure kI2 (base d:Nat)(w:World)(c:NC)(n:NT)(us:List Value):Prop where
 lf:n.lf=c.lf
 np:n.ps.length=c.np
 nt:n.tx.length=c.nt
 nk:n.ks.length=c.nk
 p:w.ownsRow base 94 2 (.slice c.P c.np c.pc) c.np (pv n.ps)
 x:w.ownsRow base 21 1 (.slice c.X c.nt c.tc) c.nt (rv n.tx)
 k:w.ownsRow base 26 4 (.slice c.K c.nk c.kc) c.nk (zGg us)
 f:zU0 n.ps n.tx.length n.ks.length c.pc c.tc c.kc
 len:us.length=n.ks.length
 kids:∀(j:Nat)(m:NT),n.ks[j]? =some m->∃u,us[j]? =some u/\zAx (fun b=>base<=b/\b<w.heap.size/\some b≠(Value.slice c.K c.nk c.kc).ownBlock) d w u m
theorem kNi {Q:Prop}(k:Q)(h:Q->P:=by
 intro kk;simp only[Act.put,List.getElem_toArray,List.getElem_cons_succ,List.getElem_cons_zero,List.setIfInBounds_toArray,List.set_cons_succ,List.set_cons_zero];exact kk):P:=h k
theorem zV2.top {e:Ending}(h:zV2 r w e w'):∃c d us,e=.returned (.tuple #[.agg (NC.row c),.int .i64 r.2])/\kI2 w.heap.size d w' c r.1 us/\zH3 w.heap.size w' (fun W=>kS W c r.1)/\Below w.heap.size w w':=by
 obtain⟨v,d,rfl,ht,hb⟩:=h;have ht2:=ht.tree;obtain⟨PA,pc,TA,tc,KA,kc,us,rfl,hp,hx,hk,hf,hl,hks⟩:=ht;exact⟨⟨r.1.lf,PA,r.1.ps.length,pc,TA,r.1.tx.length,tc,KA,r.1.ks.length,kc⟩,d,us,rfl,⟨rfl,rfl,rfl,rfl,hp,hx,hk,hf,hl,fun j m hm=>by
  obtain⟨u,h1,h2⟩:=hks j m hm;exact⟨u,h1,h2.keep (fun b hb=>⟨hb.1,hb.2.1,by have:=hb.2.2;cases KA<;>exact this⟩) (fun _ _=>⟨rfl,rfl⟩)⟩⟩,zHy ht2,hb⟩
theorem zHl {A:Option Addr}{lq cq:Nat}{q:List Int}(hn:kS w c n)(hq:zKt w A lq cq q)(hE:zGm n q=r):Calls Tryz.prog 30 #[.agg c.row,.slice A lq cq] w (zV2 r w):=by
 obtain⟨x,e⟩:=r;exact kJ0 hE hq.len hq.le hn hq.il
theorem zJh {ts te:TypeId}{size by_:Nat}(E:zQ7 ts te size by_)(W:World){ops:Array Oper}{o:Oper}{a:Act}{K:Act->World->Prop}{Q:Exit->Act->World->Prop}{F:Prop}(hgd:o.guard=none)(s x:Operand)
  (ho:o.op=.call {callee:=.builtin .append,args:=#[s,x],argTypes:=#[ts,ts]})
  (b:Nat) (v:Value) (n:Nat) (k:List Value) (hs:a.eval s=v) (hO:W.ownsRow b te size v n k) (A:Option Addr) (m c:Nat) (hm:m=0) (hx:a.eval x=.slice A m c) (hK:K (a.put o.dst v) W):
  if Region.wanted o (yielded ops a.tmps)=true then Oper.wp Tryz.prog o a W K Q else F:=by
 subst hm;have hw:Region.wanted o (yielded ops a.tmps)=true:=by simp[Region.wanted,hgd]
 rw[if_pos hw];obtain⟨i0,z,hi,hz0,hz1,hz2,hz3⟩:=E.info;have hrun:=zEp (w:=W) (ty:=o.type) (A:=A) (c:=c) E.under hi hO;unfold Oper.wp execOp;simp only[ho,resolve,invoke,builtin,Sem.run_bind,Sem.run_pure,Result.andThen_ok,List.map_toArray,List.map_cons,List.map_nil,hs,hx,hrun];exact hK
theorem kI2.high {base:Nat}(h:kI2 base d w c n us)(hh:zA5 base w w'):kI2 base d w' c n us:=
 ⟨h.lf,h.np,h.nt,h.nk,zA8 h.p hh.block,zA8 h.x hh.block,zA8 h.k hh.block,h.f,h.len,fun j m hm=>by
  obtain⟨u,h1,h2⟩:=h.kids j m hm;exact⟨u,h1,h2.keep (fun b hb=>⟨hb.1,Nat.lt_of_lt_of_le hb.2.1 hh.size,hb.2.2⟩) (fun p hp=>⟨hh.cell hp.1 hp.2.1,hh.frozen hp.1 hp.2.1⟩)⟩⟩
theorem zS0 {base:Nat}{t:TypeId}{size:Nat}{v:Value}{n:Nat}{xs:List Value}(h:w.ownsRow base t size v n xs)(ho:Off g w w')(hg:v.ownBlock≠some g):w'.ownsRow base t size v n xs:=by
 refine⟨h.1,?_⟩;rcases h.2 with e|⟨g',cap,cur,e,hb,hh,rest⟩
 ·exact .inl e
 ·refine .inr ⟨g',cap,cur,e,hb,(ho.block g' (lt_of_block hh) (fun e2=>hg ?_)).trans hh,rest⟩;rw[e,e2];rfl
theorem zS1 {base:Nat}(ht:kI2 base d w4 c b us)(hi:zA5 base w4 W)(hlb:b.ks=[])(hlm:mt.ks=[])(hlen:mt.tx.length=m.nt)(hbig:c.nt+m.nt<=100000)
  (hrow:W5.ownsRow base 21 1 (.slice A' (c.nt+m.nt) c') (c.nt+m.nt) (rv b.tx++rv mt.tx)) (hgr:W.grownBy W5 (Value.slice c.X c.nt c.tc).ownBlock) (hg:W5.heap[g]? =some (.cells cs 26 fr)) (ho:Off g W5 W8):kS W8 {c with X:=A',nt:=c.nt+m.nt,tc:=c'} (zAo b mt):=by
 have h:=ht.high hi;have hk:zGj W5 W8:=zGj.of_but hg fun k hk hl=>ho.block k hl hk;have hp:=zCs (h.p.kept hgr (zJz h.x h.p Kd)) Kd hk;have hx:=zCs hrow Kd hk;have hf:=h.f;have e1:=h.nt;have e2:=h.nk;have hn:({c with X:=A',nt:=c.nt+m.nt,tc:=c'}:NC).nk=0:=by show c.nk=0;rw[<-e2,hlb];rfl
 refine zHz.has ⟨h.lf,h.np,?_,?_,VP.pl (zIr hp) (fun _ hb=>hb.2),?_,?_,0,?_⟩
 ·show(b.tx++mt.tx).length=c.nt+m.nt
  rw[List.length_append];omega
 ·show(b.ks++mt.ks).length=c.nk
  rw[hlm,List.append_nil];exact e2
 ·show VL W8 _ A' (rv (b.tx++mt.tx))
  have:rv (b.tx++mt.tx)=rv b.tx++rv mt.tx:=by simp[rv]
  rw[this];exact VP.vl (zIr hx) (fun _ hb=>hb.2)
 ·exact⟨hf.1,hf.2.1,by show(b.tx++mt.tx).length<=_;rw[List.length_append];omega,by show(b.ks++mt.ks).length<=_;rw[hlm,List.append_nil];exact hf.2.2.2.1,hf.2.2.2.2.1,by show(b.tx++mt.tx).length<=c';rw[List.length_append];have:=zPm hx;omega,by show(b.ks++mt.ks).length<=_;rw[hlm,List.append_nil];exact hf.2.2.2.2.2.2⟩
 ·intro j m hm;have:(b.ks++mt.ks)[j]? =some m:=hm;rw[hlb,hlm]at this;simp at this
theorem zY0 {base d':Nat}{vs:List Value}(ht:kI2 base d w4 c b us)(hi:zA5 base w4 W)(_hlb:b.tx=[])(hlm:mt.tx=[])(hlen:mt.ks.length=m.nk)(hbig:c.nk+m.nk<=100000)
  (hrow:W5.ownsRow base 26 4 (.slice A' (c.nk+m.nk) c') (c.nk+m.nk) (zGg us++zGg vs)) (hgr:W.grownBy W5 (Value.slice c.K c.nk c.kc).ownBlock) (hat:(Value.slice A' (c.nk+m.nk) c').ownBlock=(Value.slice c.K c.nk c.kc).ownBlock∨∃q,(Value.slice A' (c.nk+m.nk) c').ownBlock=some q/\W.heap.size<=q)
  (hg:w4.heap.size<=g) (hgl:g<W.heap.size) (mr:W5.heap[g]? =some (.cells cs 26 fr)) (ho:Off g W5 W8) (hv:zM1 d' w w.heap.size vs mt.ks) (_hw:w.heap.size<=base) (hb:Below w.heap.size w W8):kS W8 {c with K:=A',nk:=c.nk+m.nk,kc:=c'} (zAo b mt):=by
 have h:=ht.high hi;have hk:zGj W5 W8:=zGj.of_but mr fun k hk hl=>ho.block k hl hk;have hp:=zCs (h.p.kept hgr (zJz h.k h.p Kd)) Kd hk;have hx:=zCs (h.x.kept hgr (zJz h.k h.x Kd)) Kd hk;have hkl:∀q,(Value.slice c.K c.nk c.kc).ownBlock=some q->q<w4.heap.size:=fun q hq=>(ht.k.lt q hq).2;have hkk:=zS0 hrow ho (fun e=>by
  rcases hat with h2|⟨q,h2,h3⟩
  ·rw[h2]at e;have:=hkl g e;omega
  ·rw[h2]at e;injection e with e;omega)
 have hf:=h.f;have e1:=h.nt;have e2:=h.nk;have h5:=hgr.size;have h8:=ho.size;have h4:=hi.size;have tj:zM1 (max d d') W8 W8.heap.size (us++vs) (b.ks++mt.ks):=by
  refine zM1.append ⟨h.len,fun j x hj=>?_⟩ (((hv.below hb).more hb.size).deep (Nat.le_max_right _ _));obtain⟨u,hu,htr⟩:=ht.kids j x hj;refine⟨u,hu,((htr.keep (Q:=fun b=>b<W8.heap.size) (fun b hb=>by omega) (fun p hp=>?_)).at_ (fun _ h=>h)).deep (Nat.le_max_left _ _)⟩;have e:W8.heap[p.block]? =w4.heap[p.block]? :=by
   rw[ho.block _ Kb Kb,hgr.block _ Kb hp.2.2,hi.block _ hp.1 hp.2.1]
  exact⟨World.cell?_of_block e,World.frozen?_of_block e⟩
 have tq:zKn (max d d') W8 W8.heap.size A' (b.ks++mt.ks):=kDy (us:=us++vs) (by rw[zRu];exact hkk) tj;refine zHz.has ⟨h.lf,h.np,?_,?_,VP.pl (zIr hp) (fun _ hb=>hb.2),?_,?_,_,tq⟩
 ·show(b.tx++mt.tx).length=c.nt
  rw[hlm,List.append_nil];exact e1
 ·show(b.ks++mt.ks).length=c.nk+m.nk
  rw[List.length_append];omega
 ·show VL W8 _ c.X (rv (b.tx++mt.tx))
  rw[hlm,List.append_nil];exact VP.vl (zIr hx) (fun _ hb=>hb.2)
 ·exact⟨hf.1,hf.2.1,by show(b.tx++mt.tx).length<=_;rw[hlm,List.append_nil];exact hf.2.2.1,by show(b.ks++mt.ks).length<=_;rw[List.length_append];omega,hf.2.2.2.2.1,by show(b.tx++mt.tx).length<=_;rw[hlm,List.append_nil];exact hf.2.2.2.2.2.1,by show(b.ks++mt.ks).length<=c';rw[List.length_append];have:=zPm hkk;omega⟩
theorem kPj (h:P:=by
 have fh:=hd hbk;try have dS:=hd hin
 try have gZ:=hd br
 try have kr:=hd hgb
 try have jb:=hd hbl
 try have f9:=hd ed
 have HN:=hd hn;have HO:=hd ho;have au:=hd ta;have aR:=hd hm;clear hn ho ta hm hbk;try clear hin
 try clear br
 try clear hgb
 try clear hbl
 try clear ed
 obtain⟨W0,hW,hst⟩:=jM w c o m;have HW:=hd hW;have HM:=hd hst;clear hW hst;go_enter Tryz.func81,Tryz.ntmps81
 go_upto_region 1 with fail
 rw[HW.o];clear HW;go_wp2_with(first
  |((with_reducible refine zC (ty:=27) (x:=.tmp 14) ?_);refine zE HM.o.v4 (j:=1) (v:=.slice o.Q o.lq o.cq) _ rfl rfl rfl rfl Tryz.underlying27 rfl ?_)
  |(go_at_call 117;refine Calls.mono (zI7 (HO.o.later HM.o.below) au.o fh.o) ?_;rintro e w2 ⟨A2,l2,c2,rfl,hl2,hc2,hi2,b9⟩;have ar:=hd (show Pth _ w2 A2 l2 c2 q2 w2 from⟨hl2,by have h5:=gZ.o;have h6:q2.length=l2:=hl2;omega,hc2,dS.o,hi2,zA5.refl _ _⟩);have gM:=HM.o.v6.lt;have HM:=hd (HM.o.call b9);have bu:=HM.o.v6.lt;clear b9 hl2 hc2 hi2;dsimp only)
  |(go_at_call 117;refine Calls.mono (zI7 (HO.o.later HM.o.below) au.o fh.o) ?_;rintro e w2 ⟨A2,l2,c2,rfl,hl2,hc2,hi2,b9⟩;have HM:=hd (HM.o.call b9);clear b9 hl2 hc2 hi2;dsimp only)
  |((with_reducible refine zC (ty:=26) (x:=.tmp 3) ?_);refine zB zD HM.o.v3 rfl _ rfl rfl rfl ?_)
  |(go_at_call 30;refine Calls.mono (zHl (HN.o.later HM.o.below) ar.o.has kr.o) ?_;rintro e w4 h4;obtain⟨cb,db,us,rfl,htop,hst,b9⟩:=h4.top;have dK:=hd htop;have HB:=hd hst.now;have HM:=hd (HM.o.call b9);have ar:=hd (ar.o.call b9);have mJ:=HM.o.v6.lt;have mK:=b9.size;clear b9 htop hst;dsimp only)
  |((with_reducible refine zF (ty:=26) (x:=.tmp 10) ?_);refine zA zD (r0:=NC.nil.row) (r:=cb.row) (zAr w4).1 rfl rfl cb.one _ _ rfl rfl rfl rfl rfl ?_;intro W5 hv ho;have ac:=hd hv;have HI:=hd (((zA5.refl w2.heap.size w4).call (zAr w4).2).off2 ho Kb);have HB:=hd (HB.o.later2 (zAr w4).2 ho Km);have ar:=hd ((ar.o.call (zAr w4).2).off ho Kb);have HM:=hd ((HM.o.call (zAr w4).2).off Kb ho);clear hv ho)
  |((with_reducible refine zF (ty:=26) (x:=.tmp 6) ?_);refine zA zD (r0:=NC.nil.row) (r:=NC.nil.row) HM.o.v6 rfl rfl NC.nil.one _ _ rfl rfl rfl rfl rfl ?_;intro W7 hv ho;have HM:=hd (HM.o.set6 (a':=NC.nil) hv ho);clear hv ho)
  |((with_reducible refine zC (ty:=4) (x:=.tmp 35) ?_);refine zM ac.o (j:=0) (v:=.bool false) _ rfl rfl rfl (by have h9:=HB.o.lf;rw[jb.o]at h9;simp only[NC.row,<-h9];rfl) Tryz.underlying4 rfl ?_)
  |((with_reducible refine zC (ty:=4) (x:=.tmp 37) ?_);refine zM HM.o.v5 (j:=0) (v:=.bool true) _ rfl rfl rfl (by have h9:=aR.o.lf;rw[f9.o]at h9;simp only[NC.row,<-h9];rfl) Tryz.underlying4 rfl ?_)
  |((with_reducible refine zC (ty:=4) (x:=.tmp 35) ?_);refine zM ac.o (j:=0) (v:=.bool true) _ rfl rfl rfl (by have h9:=HB.o.lf;rw[jb.o]at h9;simp only[NC.row,<-h9];rfl) Tryz.underlying4 rfl ?_)
  |((with_reducible refine zC (ty:=4) (x:=.tmp 37) ?_);refine zM HM.o.v5 (j:=0) (v:=.bool false) _ rfl rfl rfl (by have h9:=aR.o.lf;rw[f9.o]at h9;simp only[NC.row,<-h9];rfl) Tryz.underlying4 rfl ?_)
  |fail)
 exact bodyPost_ret (kU Tryz.results81 _ _ HM.o.v6 rfl) rfl ⟨NC.nil,rfl,fun _ _=>zAb _,HM.o.below⟩):P:=h
theorem zXm {o:OC}{er:Int}(hn:kS w c n)(ho:OkA w o a)(ta:zAf a)(hm:kS w m mt)(hbk:jV a.q=(q2,er))(hne:(er !=0)=true):Calls Tryz.prog 81 #[.agg c.row,.agg o.row,.agg m.row] w (zAm w (zeroT,er)):=by
 exact kPj
theorem kBl {o:OC}(hn:kS w c n)(ho:OkA w o a)(ta:zAf a)(hm:kS w m mt)(hbk:jV a.q=(q2,0))(hin:InI q2)(br:q2.length<=1000)(hgb:zGm n q2=(b,0))(hbl:b.lf=true)(ed:mt.lf=false):Calls Tryz.prog 81 #[.agg c.row,.agg o.row,.agg m.row] w (zAm w (zeroT,7)):=by
 exact kPj
theorem kBm {o:OC}(hn:kS w c n)(ho:OkA w o a)(ta:zAf a)(hm:kS w m mt)(hbk:jV a.q=(q2,0))(hin:InI q2)(br:q2.length<=1000)(hgb:zGm n q2=(b,0))(hbl:b.lf=false)(ed:mt.lf=true):Calls Tryz.prog 81 #[.agg c.row,.agg o.row,.agg m.row] w (zAm w (zeroT,7)):=by
 exact kPj
theorem kQj (h:P:=by
 have fh:=hd hbk;have dS:=hd hin;have gZ:=hd br;have kr:=hd hgb;have jb:=hd hbl;have f9:=hd ed;have pL:=hd hlb;have HN:=hd hn;have HO:=hd ho;have au:=hd ta;have aR:=hd hm;clear hn ho ta hm hbk hin br hgb hbl ed hlb;obtain⟨W0,hW,hst⟩:=jM w c o m;have HW:=hd hW;have HM:=hd hst;clear hW hst;go_enter Tryz.func81,Tryz.ntmps81
 go_upto_region 1 with fail
 rw[HW.o];clear HW;go_upto_region 9 with(first
  |((with_reducible refine zC (ty:=27) (x:=.tmp 14) ?_);refine zE HM.o.v4 (j:=1) (v:=.slice o.Q o.lq o.cq) _ rfl rfl rfl rfl Tryz.underlying27 rfl ?_)
  |(go_at_call 117;refine Calls.mono (zI7 (HO.o.later HM.o.below) au.o fh.o) ?_;rintro e w2 ⟨A2,l2,c2,rfl,hl2,hc2,hi2,b9⟩;have ar:=hd (show Pth _ w2 A2 l2 c2 q2 w2 from⟨hl2,by have h5:=gZ.o;have h6:q2.length=l2:=hl2;omega,hc2,dS.o,hi2,zA5.refl _ _⟩);have gM:=HM.o.v6.lt;have HM:=hd (HM.o.call b9);have bu:=HM.o.v6.lt;clear b9 hl2 hc2 hi2;dsimp only)
  |((with_reducible refine zC (ty:=26) (x:=.tmp 3) ?_);refine zB zD HM.o.v3 rfl _ rfl rfl rfl ?_)
  |(go_at_call 30;refine Calls.mono (zHl (HN.o.later HM.o.below) ar.o.has kr.o) ?_;rintro e w4 h4;obtain⟨cb,db,us,rfl,htop,hst,b9⟩:=h4.top;have dK:=hd htop;have HB:=hd hst.now;have HM:=hd (HM.o.call b9);have ar:=hd (ar.o.call b9);have mJ:=HM.o.v6.lt;have mK:=b9.size;clear b9 htop hst;dsimp only)
  |((with_reducible refine zF (ty:=26) (x:=.tmp 10) ?_);refine zA zD (r0:=NC.nil.row) (r:=cb.row) (zAr w4).1 rfl rfl cb.one _ _ rfl rfl rfl rfl rfl ?_;intro W5 hv ho;have ac:=hd hv;have HI:=hd (((zA5.refl w2.heap.size w4).call (zAr w4).2).off2 ho Kb);have HB:=hd (HB.o.later2 (zAr w4).2 ho Km);have ar:=hd ((ar.o.call (zAr w4).2).off ho Kb);have HM:=hd ((HM.o.call (zAr w4).2).off Kb ho);clear hv ho)
  |((with_reducible refine zC (ty:=4) (x:=.tmp 35) ?_);refine zM ac.o (j:=0) (v:=.bool false) _ rfl rfl rfl (by have h9:=HB.o.lf;rw[jb.o]at h9;simp only[NC.row,<-h9];rfl) Tryz.underlying4 rfl ?_)
  |((with_reducible refine zC (ty:=4) (x:=.tmp 37) ?_);refine zM HM.o.v5 (j:=0) (v:=.bool false) _ rfl rfl rfl (by have h9:=aR.o.lf;rw[f9.o]at h9;simp only[NC.row,<-h9];rfl) Tryz.underlying4 rfl ?_)
  |((with_reducible refine zC (ty:=4) (x:=.tmp 35) ?_);refine zM ac.o (j:=0) (v:=.bool true) _ rfl rfl rfl (by have h9:=HB.o.lf;rw[jb.o]at h9;simp only[NC.row,<-h9];rfl) Tryz.underlying4 rfl ?_)
  |((with_reducible refine zC (ty:=4) (x:=.tmp 37) ?_);refine zM HM.o.v5 (j:=0) (v:=.bool true) _ rfl rfl rfl (by have h9:=aR.o.lf;rw[f9.o]at h9;simp only[NC.row,<-h9];rfl) Tryz.underlying4 rfl ?_)
  |fail)
 obtain⟨g10,aS⟩:∃g,w4.heap.size=g:=⟨_,rfl⟩;have cZ:w4.heap.size<=g10:=Kb;rw[aS]at ac;try rw[aS]
 clear aS;have HM:=hd (HM.o.call (Kl.drew));have ac:=hd (ac.o.keep (Kl.drew));have ar:=hd (ar.o.call (Kl.drew));have HI:=hd (HI.o.call (Kl.drew));have HB:=hd (HB.o.later (Kl.drew));refine jO (S:=fun W'=>jR W' (w.heap.size+1) o/\jT 26 W' g10 cb.row) (z:=fun _=>false) Ka ?_;have aa:=hd (And.intro HM.o.v4 ac.o);refine Kp 0 5 (.pointer (some ⟨w.heap.size+1,3,none⟩)) aa.o ?_;simp only[Act.put,List.getElem_toArray,List.getElem_cons_zero,List.setIfInBounds_toArray,List.set_cons_succ,List.set_cons_zero];refine Ko 1 4 (.int .i64 o.z) (fun W9 ag=>?_) aa.o ?_
 ·exact kV (j:=3) ag.1.toR _ rfl rfl rfl Tryz.underlying3 rfl
 refine kNi ?_;refine Ko 2 3 (.agg cb.row) (fun W9 ag=>?_) aa.o ?_
 ·exact zS zD ag.2 rfl _ rfl rfl
 refine kNi ?_;refine Kq 3 2 (fun K hK=>?_);rw[if_pos Ka];go_simp;go_at_call 127
 refine(zDu (c:=cb) HB.o pL.o).mono ?_;rintro e w5 ⟨rfl,b9⟩;have HM:=hd (HM.o.call b9);have ac:=hd (ac.o.keep b9);have ar:=hd (ar.o.call b9);have HI:=hd (HI.o.call b9);clear b9 aa;have aa:=hd (And.intro HM.o.v4 ac.o);refine hK _ _ (fun _=>aa.o) ?_;clear hK K;refine Kp 4 1 (.bool true) aa.o ?_;refine kNi ?_;refine Kq 5 0 (fun K hK=>?_);rw[if_pos Ka];go_simp;refine hK _ _ (fun _=>aa.o) (zAl Ka ?_);clear hK K aa;go_wp2_with(first
  |((with_reducible refine zF (ty:=26) (x:=.tmp 6) ?_);refine zA zD (r0:=NC.nil.row) (r:=NC.nil.row) HM.o.v6 rfl rfl NC.nil.one _ _ rfl rfl rfl rfl rfl ?_;intro W7 hv ho;have HM:=hd (HM.o.set6 (a':=NC.nil) hv ho);clear hv ho)
  |fail)
 exact bodyPost_ret (kU Tryz.results81 _ _ HM.o.v6 rfl) rfl ⟨NC.nil,rfl,fun _ _=>zAb _,HM.o.below⟩):P:=h
theorem kE1 {o:OC}(hn:kS w c n)(ho:OkA w o a)(ta:zAf a)(hm:kS w m mt)(hbk:jV a.q=(q2,0))(hin:InI q2)(br:q2.length<=1000)(hgb:zGm n q2=(b,0))(hbl:b.lf=true)(ed:mt.lf=true)(hlb:zXd b=E)(_z1:(o.z==E)=false)(z2:(o.z !=E)=true):Calls Tryz.prog 81 #[.agg c.row,.agg o.row,.agg m.row] w (zAm w (zeroT,8)):=by
 exact kQj
theorem kQk (h:P:=by
 have fh:=hd hbk;have dS:=hd hin;have gZ:=hd br;have kr:=hd hgb;have jb:=hd hbl;have f9:=hd ed;have pL:=hd hlb;have mq:=hd hop;have HN:=hd hn;have HO:=hd ho;have au:=hd ta;have aR:=hd hm;clear hn ho ta hm hbk hin br hgb hbl ed hlb hop;obtain⟨W0,hW,hst⟩:=jM w c o m;have HW:=hd hW;have HM:=hd hst;clear hW hst;go_enter Tryz.func81,Tryz.ntmps81
 go_upto_region 1 with fail
 rw[HW.o];clear HW;go_upto_region 9 with(first
  |((with_reducible refine zC (ty:=27) (x:=.tmp 14) ?_);refine zE HM.o.v4 (j:=1) (v:=.slice o.Q o.lq o.cq) _ rfl rfl rfl rfl Tryz.underlying27 rfl ?_)
  |(go_at_call 117;refine Calls.mono (zI7 (HO.o.later HM.o.below) au.o fh.o) ?_;rintro e w2 ⟨A2,l2,c2,rfl,hl2,hc2,hi2,b9⟩;have ar:=hd (show Pth _ w2 A2 l2 c2 q2 w2 from⟨hl2,by have h5:=gZ.o;have h6:q2.length=l2:=hl2;omega,hc2,dS.o,hi2,zA5.refl _ _⟩);have gM:=HM.o.v6.lt;have HM:=hd (HM.o.call b9);have bu:=HM.o.v6.lt;clear b9 hl2 hc2 hi2;dsimp only)
  |((with_reducible refine zC (ty:=26) (x:=.tmp 3) ?_);refine zB zD HM.o.v3 rfl _ rfl rfl rfl ?_)
  |(go_at_call 30;refine Calls.mono (zHl (HN.o.later HM.o.below) ar.o.has kr.o) ?_;rintro e w4 h4;obtain⟨cb,db,us,rfl,htop,hst,b9⟩:=h4.top;have dK:=hd htop;have HB:=hd hst.now;have HM:=hd (HM.o.call b9);have ar:=hd (ar.o.call b9);have mJ:=HM.o.v6.lt;have mK:=b9.size;clear b9 htop hst;dsimp only)
  |((with_reducible refine zF (ty:=26) (x:=.tmp 10) ?_);refine zA zD (r0:=NC.nil.row) (r:=cb.row) (zAr w4).1 rfl rfl cb.one _ _ rfl rfl rfl rfl rfl ?_;intro W5 hv ho;have ac:=hd hv;have HI:=hd (((zA5.refl w2.heap.size w4).call (zAr w4).2).off2 ho Kb);have HB:=hd (HB.o.later2 (zAr w4).2 ho Km);have ar:=hd ((ar.o.call (zAr w4).2).off ho Kb);have HM:=hd ((HM.o.call (zAr w4).2).off Kb ho);clear hv ho)
  |((with_reducible refine zC (ty:=4) (x:=.tmp 35) ?_);refine zM ac.o (j:=0) (v:=.bool false) _ rfl rfl rfl (by have h9:=HB.o.lf;rw[jb.o]at h9;simp only[NC.row,<-h9];rfl) Tryz.underlying4 rfl ?_)
  |((with_reducible refine zC (ty:=4) (x:=.tmp 37) ?_);refine zM HM.o.v5 (j:=0) (v:=.bool false) _ rfl rfl rfl (by have h9:=aR.o.lf;rw[f9.o]at h9;simp only[NC.row,<-h9];rfl) Tryz.underlying4 rfl ?_)
  |((with_reducible refine zC (ty:=4) (x:=.tmp 35) ?_);refine zM ac.o (j:=0) (v:=.bool true) _ rfl rfl rfl (by have h9:=HB.o.lf;rw[jb.o]at h9;simp only[NC.row,<-h9];rfl) Tryz.underlying4 rfl ?_)
  |((with_reducible refine zC (ty:=4) (x:=.tmp 37) ?_);refine zM HM.o.v5 (j:=0) (v:=.bool true) _ rfl rfl rfl (by have h9:=aR.o.lf;rw[f9.o]at h9;simp only[NC.row,<-h9];rfl) Tryz.underlying4 rfl ?_)
  |fail)
 obtain⟨g10,aS⟩:∃g,w4.heap.size=g:=⟨_,rfl⟩;have cZ:w4.heap.size<=g10:=Kb;rw[aS]at ac;try rw[aS]
 clear aS;have HM:=hd (HM.o.call (Kl.drew));have ac:=hd (ac.o.keep (Kl.drew));have ar:=hd (ar.o.call (Kl.drew));have HI:=hd (HI.o.call (Kl.drew));have HB:=hd (HB.o.later (Kl.drew));refine jO (S:=fun W'=>jR W' (w.heap.size+1) o/\jT 26 W' g10 cb.row) (z:=fun _=>false) Ka ?_;have aa:=hd (And.intro HM.o.v4 ac.o);refine Kp 0 5 (.pointer (some ⟨w.heap.size+1,3,none⟩)) aa.o ?_;simp only[Act.put,List.getElem_toArray,List.getElem_cons_zero,List.setIfInBounds_toArray,List.set_cons_succ,List.set_cons_zero];refine Ko 1 4 (.int .i64 o.z) (fun W9 ag=>?_) aa.o ?_
 ·exact kV (j:=3) ag.1.toR _ rfl rfl rfl Tryz.underlying3 rfl
 refine kNi ?_;refine Ko 2 3 (.agg cb.row) (fun W9 ag=>?_) aa.o ?_
 ·exact zS zD ag.2 rfl _ rfl rfl
 refine kNi ?_;refine Kq 3 2 (fun K hK=>?_);rw[if_pos Ka];go_simp;go_at_call 127
 refine(zDu (c:=cb) HB.o pL.o).mono ?_;rintro e w5 ⟨rfl,b9⟩;have HM:=hd (HM.o.call b9);have ac:=hd (ac.o.keep b9);have ar:=hd (ar.o.call b9);have HI:=hd (HI.o.call b9);clear b9 aa;have aa:=hd (And.intro HM.o.v4 ac.o);refine hK _ _ (fun _=>aa.o) ?_;clear hK K;refine Kp 4 1 (.bool false) aa.o ?_;refine kNi ?_;refine Kq 5 0 (fun K hK=>?_);rw[if_pos Ka];go_simp;refine hK _ _ (fun _=>aa.o) (zAl Ka ?_);clear hK K aa;go_wp2_with(first
  |((with_reducible refine zC (ty:=22) (x:=.tmp 49) ?_);refine zE HM.o.v4 (j:=8) (v:=.slice o.O o.no o.co) _ rfl rfl rfl rfl Tryz.underlying22 rfl ?_)
  |((with_reducible refine zC (ty:=22) (x:=.tmp 51) ?_);refine zM HM.o.v5 (j:=1) (v:=.slice m.P m.np m.pc) _ rfl rfl rfl rfl Tryz.underlying22 rfl ?_)
  |(go_at_call 119;refine Calls.mono (zLd (aR.o.later HM.o.below) (HO.o.later HM.o.below) mq.o) ?_;rintro e w6 ⟨rfl,b9⟩;have HM:=hd (HM.o.call b9);have ac:=hd (ac.o.keep b9);have ar:=hd (ar.o.call b9);have HI:=hd (HI.o.call b9);clear b9)
  |((with_reducible refine zF (ty:=26) (x:=.tmp 6) ?_);refine zA zD (r0:=NC.nil.row) (r:=NC.nil.row) HM.o.v6 rfl rfl NC.nil.one _ _ rfl rfl rfl rfl rfl ?_;intro W7 hv ho;have HM:=hd (HM.o.set6 (a':=NC.nil) hv ho);clear hv ho)
  |fail)
 exact bodyPost_ret (kU Tryz.results81 _ _ HM.o.v6 rfl) rfl ⟨NC.nil,rfl,fun _ _=>zAb _,HM.o.below⟩):P:=h
theorem kE2 {o:OC}(hn:kS w c n)(ho:OkA w o a)(ta:zAf a)(hm:kS w m mt)(hbk:jV a.q=(q2,0))(hin:InI q2)(br:q2.length<=1000)(hgb:zGm n q2=(b,0))(hbl:b.lf=true)(ed:mt.lf=true)(hlb:zXd b=E)(_z1:(o.z==E)=true)(z2:(o.z !=E)=false)(hop:decide (a.o=mt.ps)=false):Calls Tryz.prog 81 #[.agg c.row,.agg o.row,.agg m.row] w (zAm w (zeroT,9)):=by
 exact kQk
theorem kE3 {o:OC}(hn:kS w c n)(ho:OkA w o a)(ta:zAf a)(hm:kS w m mt)(hbk:jV a.q=(q2,0))(hin:InI q2)(br:q2.length<=1000)(hgb:zGm n q2=(b,0))(hbl:b.lf=false)(ed:mt.lf=false)(hlb:zXd b=E)(_z1:(o.z==E)=false)(z2:(o.z !=E)=true):Calls Tryz.prog 81 #[.agg c.row,.agg o.row,.agg m.row] w (zAm w (zeroT,8)):=by
 exact kQj
theorem kE4 {o:OC}(hn:kS w c n)(ho:OkA w o a)(ta:zAf a)(hm:kS w m mt)(hbk:jV a.q=(q2,0))(hin:InI q2)(br:q2.length<=1000)(hgb:zGm n q2=(b,0))(hbl:b.lf=false)(ed:mt.lf=false)(hlb:zXd b=E)(_z1:(o.z==E)=true)(z2:(o.z !=E)=false)(hop:decide (a.o=mt.ps)=false):Calls Tryz.prog 81 #[.agg c.row,.agg o.row,.agg m.row] w (zAm w (zeroT,9)):=by
 exact kQk
