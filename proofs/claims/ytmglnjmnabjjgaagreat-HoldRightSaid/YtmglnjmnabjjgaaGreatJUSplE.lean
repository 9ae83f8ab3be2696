import Derived.Test.YtmglnjmnabjjgaaGreatJUTxt
set_option maxRecDepth 100000
namespace Go.Proofs.YtmglnjmnabjjgaaGreat
open Go.RowKit
variable {P:Prop}{W W5 W8 w w' w4:World}{c m:NC}{b mt n:NT}{r:NT×Int}{v:Value}{A A':Option Addr}{c' d g:Nat}{us:List Value}{cs:Array Value}{fr:Nat×Nat}
theorem kA {Q:Prop}(k:Q)(h:Q->P:=by
 intro kk;simp only[Act.put,List.getElem_toArray,List.getElem_cons_succ,List.getElem_cons_zero,List.setIfInBounds_toArray,List.set_cons_succ,List.set_cons_zero];exact kk):P:=h k
theorem kTk (h:P:=by
 go_wp2_with(first
  |((with_reducible refine zC (ty:=26) (x:=.tmp 3) ?_);refine zB zD HM.o.v3 rfl _ rfl rfl rfl ?_)
  |((with_reducible refine zC (ty:=26) (x:=.tmp 5) ?_);refine zB zD HM.o.v5 rfl _ rfl rfl rfl ?_)
  |((with_reducible refine zC (ty:=26) (x:=.tmp 11) ?_);refine zB zD bT.o rfl _ rfl rfl rfl ?_)
  |((with_reducible refine zC (ty:=26) (x:=.tmp 10) ?_);refine zB zD ae.o rfl _ rfl rfl rfl ?_)
  |((with_reducible refine zC (ty:=27) (x:=.tmp 66) ?_);refine zE HM.o.v4 (j:=1) (v:=.slice o.Q o.lq o.cq) _ rfl rfl rfl rfl Tryz.underlying27 rfl ?_)
  |(go_at_call 104;refine Calls.mono (zJ1 (HN.o.later HM.o.below) (kA6 (aF.o.later HM.o.below) eX.o HK.o) (zKt.later (HO.o.hasq aw.o) HM.o.below) cU.o) ?_;rintro e w6 ⟨cp,rfl,hx,b9⟩;have HP:=hd hx.now;have ae:=hd (ae.o.keep b9);have au:=hd (au.o.call b9);have HM:=hd (HM.o.call b9);have iZ:=HM.o.v6.lt;have hlv:=ae.o.lt;have hlq:=au.o.hi.size;clear b9 hx;dsimp only)
  |((with_reducible refine zF (ty:=26) (x:=.tmp 11) ?_);refine zA zD (r0:=NC.nil.row) (r:=cp.row) (zAr w6).1 rfl rfl cp.one _ _ rfl rfl rfl rfl rfl ?_;intro W7 hv ho;have bT:=hd hv;have HP:=hd (HP.o.later2 (zAr w6).2 ho Kl);have ae:=hd ((ae.o.keep (zAr w6).2).off ho Kb);have au:=hd ((au.o.call (zAr w6).2).off ho Kb);have HM:=hd ((HM.o.call (zAr w6).2).off Kb ho);clear hv ho)
  |((with_reducible refine zF (ty:=26) (x:=.tmp 6) ?_);refine zA zD (r0:=NC.nil.row) (r:=cf.row) HM.o.v6 rfl rfl cf.one _ _ rfl rfl rfl rfl rfl ?_;intro WF hv ho;have HM:=hd (HM.o.set6 (a':=cf) hv ho);have HX:=hd (HX.o.off ho Kb);clear hv ho)
  |(go_at_call 73;refine Calls.mono (zOi HP.o (kA7 (aF.o.later HM.o.below) (HO.o.later HM.o.below) eX.o HK.o HD.o) au.o.has cM.o HAD.o) ?_;rintro e wF ⟨cf,rfl,hx,b9⟩;have hlo:=HM.o.v6.lt;have hsz:=HM.o.below.size;have HX:=hd hx;have HM:=hd (HM.o.call b9);clear b9 hx;dsimp only)
  |fail)
 exact bodyPost_ret (kU Tryz.results71 _ _ HM.o.v6 rfl) rfl ⟨cf,rfl,HX.o.more Kb,HM.o.below⟩):P:=h
theorem kQ7 (h:P:=by
 refine kA ?_;refine Ko 10 3 (.pointer (some ⟨w.heap.size+1+1,3,none⟩)) aa.o ?_;refine kA ?_;refine Kp 11 2 (fun K hK=>?_);rw[if_pos Ka];refine zY zKu HM.o.v5 _ _ rfl rfl 3 _ [.slice m.K k m.kc] rfl rfl rfl rfl (zHt rfl) Km ?_;intro W5 hv ho;have HM:=hd (HM.o.set5 (a':={m with nk:=k}) hv ho);have ae:=hd (ae.o.off ho Kb);have au:=hd (au.o.off ho Kb);have aa:=hd HM.o.v4;clear hv ho;refine hK _ _ (fun _=>aa.o) ?_;clear hK K;refine Ko 12 1 (.pointer (some ⟨g10,3,none⟩)) aa.o ?_;refine kA ?_;refine Kp 13 0 (fun K hK=>?_);rw[if_pos Ka];refine zY zKu ae.o _ _ rfl rfl 3 _ [.slice D (m.nk-k) (m.kc-k)] rfl rfl rfl rfl (zHt rfl) Km ?_;intro W6 hv ho;have ae:=hd (show jT 26 W6 g10 (NC.row (⟨m.lf,o.W,o.nw,o.cw,none,0,0,D,m.nk-k,m.kc-k⟩:NC))from hv);have HM:=hd (HM.o.off Kb ho);have au:=hd (au.o.off ho Kb);clear hv ho;refine hK _ _ (fun _=>HM.o.v4) (zAl Ka ?_);clear hK K aa;exact kTk):P:=h
set_option maxHeartbeats 8000000 in
theorem kEl {o:OC}{a:OpP}{E:Int}{k:Nat}{q2:List Int}{y:NT}(hn:kS w c n)(ho:OkA w o a)(ta:zAf a)(hm:kS w m mt)(hz:decide (o.z<0)=false)(mq:o.z=(k:Int))(hk:k<=m.nk)(gu:zXd mt=E)(hov:decide (E<o.z)=false)(hnx:zBg a.q=(q2,0))(hin:InI q2)(bO:q2.length<=1000)(cJ:m.lf=false)(hlt:mt.lf=false)(hput:zSe n a.q (jN mt k)=(y,0))(hsz:sizeT y<=100000)(had:zGo y q2 (zA2 mt k a.w)=r):Calls Tryz.prog 71 #[.agg c.row,.agg o.row,.agg m.row] w (zAm w r):=by
 have hmp:=hm.parts.f;obtain⟨D,hD,br⟩:=zVa m.K m.nk m.kc k hk (by have:=hmp.2.2.2.2.2.2;have:=hm.parts.nk;omega);have hcap:k<=m.kc:=by have:=hmp.2.2.2.2.2.2;have:=hm.parts.nk;omega
 have bu:∀W:World,(Instr.slice 24 (.slice m.K m.nk m.kc) none (some (.int .i64 o.z)) none).run Tryz.prog W=.ok (.slice m.K k m.kc) W:=by rw[mq];exact zRw m.K m.nk m.kc k hcap
 have bi:∀W:World,(Instr.slice 24 (.slice m.K m.nk m.kc) (some (.int .i64 o.z)) none none).run Tryz.prog W=.ok (.slice D (m.nk-k) (m.kc-k)) W:=by rw[mq];exact br
 have HD:=hd hD;have HK:=hd hk;have px:=hd bu;have fR:=hd bi;clear hD bu bi br hmp mq hcap hk;have mr:=hd gu;have mz:=hd hnx;have fA:=hd hin;have fT:=hd bO;have cX:=hd cJ;have eX:=hd hlt;have cU:=hd hput;have cM:=hd hsz;have HAD:=hd had;have HN:=hd hn;have HO:=hd ho;have aw:=hd ta;have aF:=hd hm;clear hn ho ta hm gu hnx hin bO cJ hlt hput hsz had;obtain⟨W0,hW,hst⟩:=jM w c o m;have HW:=hd hW;have HM:=hd hst;clear hW hst;go_enter Tryz.func71,Tryz.ntmps71
 go_upto_region 1 with fail
 rw[HW.o];clear HW;have HM:=hd (HM.o.call (Kk.drew));refine jO (S:=fun W'=>jT 26 W' (w.heap.size+1+1) m.row/\jR W' (w.heap.size+1) o) (z:=fun _=>false) Ka ?_;have aa:=hd (And.intro HM.o.v5 HM.o.v4);refine Ko 0 9 (.pointer (some ⟨w.heap.size+1,3,none⟩)) aa.o ?_;simp only[Act.put,List.getElem_toArray,List.getElem_cons_zero,List.setIfInBounds_toArray,List.set_cons_succ,List.set_cons_zero];refine Kn 1 8 (.int .i64 o.z) (fun W9 aj=>?_) aa.o ?_
 ·exact kV (j:=3) aj.2.toR _ rfl rfl rfl Tryz.underlying3 rfl
 refine kA ?_;refine Ko 2 7 (.bool false) aa.o ?_;refine kA ?_;refine Ko 3 6 (.bool false) aa.o ?_;refine kA ?_;refine Ko 4 5 (.pointer (some ⟨w.heap.size+1,3,none⟩)) aa.o ?_;refine kA ?_;refine Kn 5 4 (.int .i64 o.z) (fun W9 aj=>?_) aa.o ?_
 ·exact kV (j:=3) aj.2.toR _ rfl rfl rfl Tryz.underlying3 rfl
 refine kA ?_;refine Kn 6 3 (.agg m.row) (fun W9 aj=>?_) aa.o ?_
 ·exact zS zD aj.1 rfl _ rfl rfl
 refine kA ?_;refine Kp 7 2 (fun K hK=>?_);rw[if_pos Ka];go_simp;go_at_call 102
 refine(zDu (c:=m) (aF.o.later HM.o.below) mr.o).mono ?_;rintro e w1 ⟨rfl,b9⟩;have HM:=hd (HM.o.call b9);clear b9 aa;have aa:=hd (And.intro HM.o.v5 HM.o.v4);refine hK _ _ (fun _=>aa.o) ?_;clear hK K;refine Ko 8 1 (.bool false) aa.o ?_;refine kA ?_;refine Kp 9 0 (fun K hK=>?_);rw[if_pos Ka];go_simp;refine hK _ _ (fun _=>aa.o) (zAl Ka ?_);clear hK K aa;go_upto_region 9 with(first
  |((with_reducible refine zC (ty:=27) (x:=.tmp 24) ?_);refine zE HM.o.v4 (j:=1) (v:=.slice o.Q o.lq o.cq) _ rfl rfl rfl rfl Tryz.underlying27 rfl ?_)
  |(go_at_call 86;refine Calls.mono (kE7 (HO.o.later HM.o.below) aw.o mz.o) ?_;rintro e w2 ⟨A2,l2,c2,rfl,hl2,hc2,hi2,b9⟩;have au:=hd (show Pth _ w2 A2 l2 c2 q2 w2 from⟨hl2,by have h5:=fT.o;have h6:q2.length=l2:=hl2;omega,hc2,fA.o,hi2,zA5.refl _ _⟩);have f9:=HM.o.v6.lt;have HM:=hd (HM.o.call b9);have bY:=HM.o.v6.lt;clear b9 hl2 hc2 hi2;dsimp only)
  |((with_reducible refine zC (ty:=4) (x:=.tmp 33) ?_);refine zM HM.o.v5 (j:=0) (v:=.bool m.lf) _ rfl rfl rfl rfl Tryz.underlying4 rfl ?_)
  |((with_reducible refine zC (ty:=22) (x:=.tmp 35) ?_);refine zE HM.o.v4 (j:=9) (v:=.slice o.W o.nw o.cw) _ rfl rfl rfl rfl Tryz.underlying22 rfl ?_)
  |((with_reducible refine zF (ty:=26) (x:=.tmp 10) ?_);refine zA zD (r0:=NC.nil.row) (r:=(⟨m.lf,o.W,o.nw,o.cw,none,0,0,none,0,0⟩:NC).row) (zAr w2).1 rfl rfl (⟨m.lf,o.W,o.nw,o.cw,none,0,0,none,0,0⟩:NC).one _ _ rfl rfl rfl rfl rfl ?_;intro W3 hv ho;have ae:=hd hv;have au:=hd ((au.o.call (zAr w2).2).off ho Kb);have HM:=hd ((HM.o.call (zAr w2).2).off Kb ho);clear hv ho)
  |((with_reducible refine zC (ty:=4) (x:=.tmp 38) ?_);refine zM HM.o.v5 (j:=0) (v:=.bool false) _ rfl rfl rfl (by simp only[NC.row,cX.o];rfl) Tryz.underlying4 rfl ?_))
 obtain⟨g10,aG⟩:∃g,w2.heap.size=g:=⟨_,rfl⟩;have bS:w2.heap.size<=g10:=Kb;rw[aG]at ae;try rw[aG]
 clear aG;have HM:=hd (HM.o.call (Kk.drew));have ae:=hd (ae.o.keep (Kk.drew));have au:=hd (au.o.call (Kk.drew));refine jO (S:=fun W'=>jR W' (w.heap.size+1) o) (z:=fun _=>false) Ka ?_;have aa:=hd HM.o.v4;refine Ko 0 13 (.pointer (some ⟨w.heap.size+1+1,3,none⟩)) aa.o ?_;simp only[Act.put,List.getElem_toArray,List.getElem_cons_zero,List.setIfInBounds_toArray,List.set_cons_succ,List.set_cons_zero];refine Ko 2 12 (.pointer (some ⟨w.heap.size+1,3,none⟩)) aa.o ?_;refine kA ?_;refine Kn 3 11 (.int .i64 o.z) (fun W9 aj=>?_) aa.o ?_
 ·exact kV (j:=3) aj.toR _ rfl rfl rfl Tryz.underlying3 rfl
 refine kA ?_;refine Ko 5 10 (.pointer (some ⟨w.heap.size+1+1,3,none⟩)) aa.o ?_;refine kA ?_;refine Ko 7 9 (.pointer (some ⟨w.heap.size+1,3,none⟩)) aa.o ?_;refine kA ?_;refine Kn 8 8 (.int .i64 o.z) (fun W9 aj=>?_) aa.o ?_
 ·exact kV (j:=3) aj.toR _ rfl rfl rfl Tryz.underlying3 rfl
 refine kA ?_;refine kB9 (i:=1) (j:=6) (n:=7) Ka rfl rfl (fun K hK=>?_) (fun K hK=>?_)
 ·rw[if_pos Ka];refine zB6 (j:=3) (HM.o.v5.cell 3 (.slice m.K m.nk m.kc) rfl) _ rfl rfl Tryz.underlying24 rfl ?_;refine kA ?_;refine hK _ _ (fun _=>aa.o) ?_;clear hK K;refine Kn 4 6 (.slice m.K k m.kc) (fun W9 aj=>?_) aa.o ?_
  ·have bu:=px.o;go_simp
  refine kA ?_;refine Kp 6 5 (fun K hK=>?_);rw[if_pos Ka];refine zB6 (j:=3) (HM.o.v5.cell 3 (.slice m.K m.nk m.kc) rfl) _ rfl rfl Tryz.underlying24 rfl ?_;refine kA ?_;refine hK _ _ (fun _=>aa.o) ?_;clear hK K;refine Kn 9 4 (.slice D (m.nk-k) (m.kc-k)) (fun W9 aj=>?_) aa.o ?_
  ·have bi:=fR.o;go_simp
  exact kQ7
 ·rw[if_pos Ka];refine zB6 (j:=3) (HM.o.v5.cell 3 (.slice m.K m.nk m.kc) rfl) _ rfl rfl Tryz.underlying24 rfl ?_;refine kA ?_;refine hK _ _ (fun _=>aa.o) ?_;clear hK K;refine Kn 9 6 (.slice D (m.nk-k) (m.kc-k)) (fun W9 aj=>?_) aa.o ?_
  ·have bi:=fR.o;go_simp
  refine kA ?_;refine Kp 1 5 (fun K hK=>?_);rw[if_pos Ka];refine zB6 (j:=3) (HM.o.v5.cell 3 (.slice m.K m.nk m.kc) rfl) _ rfl rfl Tryz.underlying24 rfl ?_;refine kA ?_;refine hK _ _ (fun _=>aa.o) ?_;clear hK K;refine Kn 4 4 (.slice m.K k m.kc) (fun W9 aj=>?_) aa.o ?_
  ·have bu:=px.o;go_simp
  exact kQ7
theorem kJ0 {x:NT}{er:Int}{p:List Int}{lp c:Nat}(hr:zGm n p=(x,er))(aO:p.length=lp)(hl:lp<=1000)(hn:At w v n)(hp:IL w w.heap.size A p):Calls Tryz.prog 15 #[v,.slice A lp c] w (zV2 (x,er) w):=by
 obtain⟨d,hn⟩:=hn;subst aO;rw[<-hr];exact zYz d w v n A p p.length c rfl Kb hn hp
structure kI2 (base d:Nat)(w:World)(c:NC)(n:NT)(us:List Value):Prop where
 lf:n.lf=c.lf
 np:n.ps.length=c.np
 nt:n.tx.length=c.nt
 nk:n.ks.length=c.nk
 p:w.ownsRow base 103 2 (.slice c.P c.np c.pc) c.np (pv n.ps)
 x:w.ownsRow base 21 1 (.slice c.X c.nt c.tc) c.nt (rv n.tx)
 k:w.ownsRow base 26 4 (.slice c.K c.nk c.kc) c.nk (zGg us)
 f:zU0 n.ps n.tx.length n.ks.length c.pc c.tc c.kc
 len:us.length=n.ks.length
 kids:∀(j:Nat)(m:NT),n.ks[j]? =some m->∃u,us[j]? =some u/\zAx (fun b=>base<=b/\b<w.heap.size/\some b≠(Value.slice c.K c.nk c.kc).ownBlock) d w u m
theorem zV2.top {e:Ending}(h:zV2 r w e w'):∃c d us,e=.returned (.tuple #[.agg (NC.row c),.int .i64 r.2])/\kI2 w.heap.size d w' c r.1 us/\zH3 w.heap.size w' (fun W=>kS W c r.1)/\Below w.heap.size w w':=by
 obtain⟨v,d,rfl,ht,hb⟩:=h;have ht2:=ht.tree;obtain⟨PA,pc,TA,tc,KA,kc,us,rfl,hp,hx,hk,hf,hl,hks⟩:=ht;exact⟨⟨r.1.lf,PA,r.1.ps.length,pc,TA,r.1.tx.length,tc,KA,r.1.ks.length,kc⟩,d,us,rfl,⟨rfl,rfl,rfl,rfl,hp,hx,hk,hf,hl,fun j m hm=>by
  obtain⟨u,h1,h2⟩:=hks j m hm;exact⟨u,h1,h2.keep (fun b hb=>⟨hb.1,hb.2.1,by have:=hb.2.2;cases KA<;>exact this⟩) (fun _ _=>⟨rfl,rfl⟩)⟩⟩,zHy ht2,hb⟩
theorem zHl {lq cq:Nat}{q:List Int}(hn:kS w c n)(hq:zKt w A lq cq q)(hE:zGm n q=r):Calls Tryz.prog 15 #[.agg c.row,.slice A lq cq] w (zV2 r w):=by
 obtain⟨x,e⟩:=r;exact kJ0 hE hq.len hq.le hn hq.il
theorem zJh {ts te:TypeId}{size by_:Nat}(E:zQ7 ts te size by_)(W:World){ops:Array Oper}{o:Oper}{a:Act}{K:Act->World->Prop}{Q:Exit->Act->World->Prop}{F:Prop}(hgd:o.guard=none)(s x:Operand)
  (ho:o.op=.call {callee:=.builtin .append,args:=#[s,x],argTypes:=#[ts,ts]})
  (b:Nat) (v:Value) (n:Nat) (k:List Value) (hs:a.eval s=v) (hO:W.ownsRow b te size v n k) (A:Option Addr) (m c:Nat) (hm:m=0) (hx:a.eval x=.slice A m c) (hK:K (a.put o.dst v) W):
  if Region.wanted o (yielded ops a.tmps)=true then Oper.wp Tryz.prog o a W K Q else F:=by
 subst hm;have hw:Region.wanted o (yielded ops a.tmps)=true:=by simp[Region.wanted,hgd]
 rw[if_pos hw];obtain⟨i0,z,hi,hz0,hz1,hz2,hz3⟩:=E.info;have hrun:=zEp (w:=W) (ty:=o.type) (A:=A) (c:=c) E.under hi hO;unfold Oper.wp execOp;simp only[ho,resolve,invoke,builtin,Sem.run_bind,Sem.run_pure,Result.andThen_ok,List.map_toArray,List.map_cons,List.map_nil,hs,hx,hrun];exact hK
theorem kI2.high {base:Nat}(h:kI2 base d w c n us)(hh:zA5 base w w'):kI2 base d w' c n us:=
 ⟨h.lf,h.np,h.nt,h.nk,zA8 h.p hh.block,zA8 h.x hh.block,zA8 h.k hh.block,h.f,h.len,fun j m hm=>by
  obtain⟨u,h1,h2⟩:=h.kids j m hm;exact⟨u,h1,h2.keep (fun b hb=>⟨hb.1,Nat.lt_of_lt_of_le hb.2.1 hh.size,hb.2.2⟩) (fun p hp=>⟨hh.cell hp.1 hp.2.1,hh.frozen hp.1 hp.2.1⟩)⟩⟩
theorem zS0 {base:Nat}{t:TypeId}{size:Nat}{n:Nat}{xs:List Value}(h:w.ownsRow base t size v n xs)(ho:Off g w w')(hg:v.ownBlock≠some g):w'.ownsRow base t size v n xs:=by
 refine⟨h.1,?_⟩;rcases h.2 with e|⟨g',cap,cur,e,hb,hh,rest⟩
 ·exact .inl e
 ·refine .inr ⟨g',cap,cur,e,hb,(ho.block g' (lt_of_block hh) (fun e2=>hg ?_)).trans hh,rest⟩;rw[e,e2];rfl
theorem zS1 {base:Nat}(ht:kI2 base d w4 c b us)(hi:zA5 base w4 W)(hlb:b.ks=[])(hlm:mt.ks=[])(hlen:mt.tx.length=m.nt)(hbig:c.nt+m.nt<=100000)
  (hrow:W5.ownsRow base 21 1 (.slice A' (c.nt+m.nt) c') (c.nt+m.nt) (rv b.tx++rv mt.tx)) (hgr:W.grownBy W5 (Value.slice c.X c.nt c.tc).ownBlock) (hg:W5.heap[g]? =some (.cells cs 26 fr)) (ho:Off g W5 W8):kS W8 {c with X:=A',nt:=c.nt+m.nt,tc:=c'} (zAo b mt):=by
 have h:=ht.high hi;have hk:zGj W5 W8:=zGj.of_but hg fun k hk hl=>ho.block k hl hk;have hp:=zCs (h.p.kept hgr (zJz h.x h.p Kd)) Kd hk;have hx:=zCs hrow Kd hk;have hf:=h.f;have e1:=h.nt;have e2:=h.nk;have hn:({c with X:=A',nt:=c.nt+m.nt,tc:=c'}:NC).nk=0:=by show c.nk=0;rw[<-e2,hlb];rfl
 refine zHz.has ⟨h.lf,h.np,?_,?_,VP.pl (zIr hp) (fun _ hb=>hb.2),?_,?_,0,?_⟩
 ·show(b.tx++mt.tx).length=c.nt+m.nt
  rw[List.length_append];omega
 ·show(b.ks++mt.ks).length=c.nk
  rw[hlm,List.append_nil];exact e2
 ·show VL W8 _ A' (rv (b.tx++mt.tx))
  have:rv (b.tx++mt.tx)=rv b.tx++rv mt.tx:=by simp[rv]
  rw[this];exact VP.vl (zIr hx) (fun _ hb=>hb.2)
 ·exact⟨hf.1,hf.2.1,by show(b.tx++mt.tx).length<=_;rw[List.length_append];omega,by show(b.ks++mt.ks).length<=_;rw[hlm,List.append_nil];exact hf.2.2.2.1,hf.2.2.2.2.1,by show(b.tx++mt.tx).length<=c';rw[List.length_append];have:=zPm hx;omega,by show(b.ks++mt.ks).length<=_;rw[hlm,List.append_nil];exact hf.2.2.2.2.2.2⟩
 ·intro j m hm;have:(b.ks++mt.ks)[j]? =some m:=hm;rw[hlb,hlm]at this;simp at this
theorem zY0 {base d':Nat}{vs:List Value}(ht:kI2 base d w4 c b us)(hi:zA5 base w4 W)(_hlb:b.tx=[])(hlm:mt.tx=[])(hlen:mt.ks.length=m.nk)(hbig:c.nk+m.nk<=100000)
  (hrow:W5.ownsRow base 26 4 (.slice A' (c.nk+m.nk) c') (c.nk+m.nk) (zGg us++zGg vs)) (hgr:W.grownBy W5 (Value.slice c.K c.nk c.kc).ownBlock) (hat:(Value.slice A' (c.nk+m.nk) c').ownBlock=(Value.slice c.K c.nk c.kc).ownBlock∨∃q,(Value.slice A' (c.nk+m.nk) c').ownBlock=some q/\W.heap.size<=q)
  (hg:w4.heap.size<=g) (hgl:g<W.heap.size) (oC:W5.heap[g]? =some (.cells cs 26 fr)) (ho:Off g W5 W8) (hv:zM1 d' w w.heap.size vs mt.ks) (_hw:w.heap.size<=base) (hb:Below w.heap.size w W8):kS W8 {c with K:=A',nk:=c.nk+m.nk,kc:=c'} (zAo b mt):=by
 have h:=ht.high hi;have hk:zGj W5 W8:=zGj.of_but oC fun k hk hl=>ho.block k hl hk;have hp:=zCs (h.p.kept hgr (zJz h.k h.p Kd)) Kd hk;have hx:=zCs (h.x.kept hgr (zJz h.k h.x Kd)) Kd hk;have hkl:∀q,(Value.slice c.K c.nk c.kc).ownBlock=some q->q<w4.heap.size:=fun q hq=>(ht.k.lt q hq).2;have hkk:=zS0 hrow ho (fun e=>by
  rcases hat with h2|⟨q,h2,h3⟩
  ·rw[h2]at e;have:=hkl g e;omega
  ·rw[h2]at e;injection e with e;omega)
 have hf:=h.f;have e1:=h.nt;have e2:=h.nk;have h5:=hgr.size;have h8:=ho.size;have h4:=hi.size;have py:zM1 (max d d') W8 W8.heap.size (us++vs) (b.ks++mt.ks):=by
  refine zM1.append ⟨h.len,fun j x hj=>?_⟩ (((hv.below hb).more hb.size).deep (Nat.le_max_right _ _));obtain⟨u,hu,htr⟩:=ht.kids j x hj;refine⟨u,hu,((htr.keep (Q:=fun b=>b<W8.heap.size) (fun b hb=>by omega) (fun p hp=>?_)).at_ (fun _ h=>h)).deep (Nat.le_max_left _ _)⟩;have e:W8.heap[p.block]? =w4.heap[p.block]? :=by
   rw[ho.block _ Kb Kb,hgr.block _ Kb hp.2.2,hi.block _ hp.1 hp.2.1]
  exact⟨World.cell?_of_block e,World.frozen?_of_block e⟩
 have pz:zKn (max d d') W8 W8.heap.size A' (b.ks++mt.ks):=kDy (us:=us++vs) (by rw[zRu];exact hkk) py;refine zHz.has ⟨h.lf,h.np,?_,?_,VP.pl (zIr hp) (fun _ hb=>hb.2),?_,?_,_,pz⟩
 ·show(b.tx++mt.tx).length=c.nt
  rw[hlm,List.append_nil];exact e1
 ·show(b.ks++mt.ks).length=c.nk+m.nk
  rw[List.length_append];omega
 ·show VL W8 _ c.X (rv (b.tx++mt.tx))
  rw[hlm,List.append_nil];exact VP.vl (zIr hx) (fun _ hb=>hb.2)
 ·exact⟨hf.1,hf.2.1,by show(b.tx++mt.tx).length<=_;rw[hlm,List.append_nil];exact hf.2.2.1,by show(b.ks++mt.ks).length<=_;rw[List.length_append];omega,hf.2.2.2.2.1,by show(b.tx++mt.tx).length<=_;rw[hlm,List.append_nil];exact hf.2.2.2.2.2.1,by show(b.ks++mt.ks).length<=c';rw[List.length_append];have:=zPm hkk;omega⟩
