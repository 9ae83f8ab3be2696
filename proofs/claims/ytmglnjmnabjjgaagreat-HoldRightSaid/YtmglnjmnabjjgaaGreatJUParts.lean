import Derived.Test.YtmglnjmnabjjgaaGreatJQSort
set_option maxRecDepth 100000
set_option maxHeartbeats 8000000
namespace Go.Proofs.YtmglnjmnabjjgaaGreat
open Go.RowKit
variable {g k l lo:Nat}{A:Option Addr}{E:Int}{L:List Pr}{e:Ending}{r:List Int×Int}{q:List Int}
theorem zX8 {w:World}{xs:List Value}(h:VP (fun b=>lo<=b/\b<w.heap.size) w A xs):zH3 lo w (fun W=>VP (fun b=>b<W.heap.size) W A xs):=fun W' ho k u hu=>by
 obtain⟨b,o,e,hb,hc,hf⟩:=h k u hu;exact⟨b,o,e,Nat.lt_of_lt_of_le hb.2 ho.size,(ho.cell (p:=⟨b,o+k,none⟩) hb.1 hb.2).trans hc,(ho.frozen (p:=⟨b,o+k,none⟩) hb.1 hb.2).trans hf⟩
def kJo (w:World)(r:List Pr×Int)(e:Ending)(w':World):Prop:=∃A c,e=.returned (.tuple #[.slice A r.1.length c,.int .i64 r.2])/\r.1.length<=c/\zH3 w.heap.size w' (fun W=>PL W W.heap.size A r.1)/\Below w.heap.size w w'
theorem zM0.told {w w':World}(h:zM0 w E L e w'):kJo w (L,E) e w':=by
 obtain⟨v,rfl,ho,hb⟩:=h;obtain⟨A0,c0,_,h1⟩:=ho;obtain⟨A,c,rfl,hc,_,_⟩:=zC9 h1;refine⟨A,c,rfl,hc,fun W hW=>?_,hb⟩;have hv:=zX8 (zIr h1) W hW;exact VP.pl (l:=L) hv (fun _ h=>h)
def kGo (w:World)(r:List Int×Int)(e:Ending)(w':World):Prop:=∃A c,e=.returned (.tuple #[.slice A r.1.length c,.int .i64 r.2])/\r.1.length<=c/\zH3 w.heap.size w' (fun W=>VL W W.heap.size A (rv r.1))/\Below w.heap.size w w'
theorem kJu.told {w w':World}(h:kJu w r e w'):kGo w r e w':=by
 obtain⟨v,rfl,ho,hb⟩:=h;have h1:=ho.own;obtain⟨A,c,rfl,hc,_,_⟩:=zC9 h1;rw[zCg]at hc h1;refine⟨A,c,by rw[zCg],hc,fun W hW=>?_,hb⟩;have hv:=zX8 (zIr h1) W hW;exact VP.vl hv (fun _ h=>h)
section
variable {w:World}{c m:NC}{o:OC}{n mt:NT}{a:OpP}
theorem kS.setP (h:kS w m mt)(hP:PL w w.heap.size A L)(hw:chk L=0)(hk:L.length<=k):kS w {m with P:=A,np:=L.length,pc:=k} (zEs mt L):=by
 have hp:=h.parts;have hf:=hp.f;have hfit:=zIc hw;obtain⟨d,hK⟩:=hp.k;have j6:=((zC8 L).1 hw).1;exact zHz.has ⟨hp.lf,rfl,hp.nt,hp.nk,hP,hp.x,⟨⟨by show L.length<=_;omega,fun p hp=>by have:=hfit.2 p hp;omega⟩,by show L.length<=_;omega,hf.2.2.1,hf.2.2.2.1,hk,hf.2.2.2.2.2.1,hf.2.2.2.2.2.2⟩,d,hK⟩
theorem kS.setX {L:List Int}(h:kS w m mt)(hX:VL w w.heap.size A (rv L))(hl:L.length<=35184372088832)(hk:L.length<=k):kS w {m with X:=A,nt:=L.length,tc:=k} (zCz mt L):=by
 have hp:=h.parts;have hf:=hp.f;obtain⟨d,hK⟩:=hp.k;exact zHz.has ⟨hp.lf,hp.np,rfl,hp.nk,hp.p,hX,⟨hf.1,hf.2.1,hl,hf.2.2.2.1,hf.2.2.2.2.1,hk,hf.2.2.2.2.2.2⟩,d,hK⟩
theorem zT9 {r:List Pr×Int}(h:kS w m mt)(ho:OkA w o a)(hE:(PLs mt.ps a.o a.w,PE mt.ps a.o a.w)=r):Calls Tryz.prog 110 #[.slice m.P m.np m.pc,.slice o.O o.no o.co,.slice o.W o.nw o.cw] w (kJo w r):=by
 have hp:=h.parts;have h1:=hp.p;have e1:=hp.np;have e2:=ho.hno;have e3:=ho.hnw;rw[<-hE,<-e1,<-e2,<-e3];exact(kDv m.P o.O o.W mt.ps a.o a.w m.pc o.co o.cw w hp.f.1 ho.hwo ho.hww h1 ho.ho ho.hw _ rfl _ rfl).mono fun e w' h=>h.told
theorem kE5 (h:kS w m mt)(ho:OkA w o a)(ta:zAf a)(hs:sizeT mt<=900)(hE:zFx mt.tx a.z a.x=r):Calls Tryz.prog 111 #[.slice m.X m.nt m.tc,.int .i64 o.z,.slice o.S o.nx o.cx] w (kGo w r):=by
 have hp:=h.parts;have e1:=hp.nt;have e2:=ho.hnx;have e3:=ta.hx;have hl:mt.tx.length<=sizeT mt:=by obtain⟨lf,ps,tx,ks⟩:=mt;simp only[sizeT,NT.tx];omega
 rw[<-hE,ho.hz];exact(zVn m.X o.S mt.tx a.x m.nt o.nx m.tc o.cx o.z w e1 e2 Kb Kb (by have:=hp.f.2.2.2.2.2.1;omega) ho.hcx hp.x ho.hx).mono fun e w' h=>h.told
theorem kE6 (h:kS w m mt)(ho:OkA w o a)(ta:zAf a)(hs:sizeT mt<=900)(hE:zFe mt.tx a.z a.x=r):Calls Tryz.prog 112 #[.slice m.X m.nt m.tc,.int .i64 o.z,.slice o.S o.nx o.cx] w (kGo w r):=by
 have hp:=h.parts;have e1:=hp.nt;have e2:=ho.hnx;have e3:=ta.hx;have hl:mt.tx.length<=sizeT mt:=by obtain⟨lf,ps,tx,ks⟩:=mt;simp only[sizeT,NT.tx];omega
 rw[<-hE,ho.hz];exact(zVo m.X o.S mt.tx a.x m.nt o.nx m.tc o.cx o.z w e1 e2 Kb Kb (by have:=hp.f.2.2.2.2.2.1;omega) ho.hcx hp.x ho.hx).mono fun e w' h=>h.told
theorem zLr (ho:OkA w o a)(hE:chk a.w=E):Calls Tryz.prog 100 #[.slice o.W o.nw o.cw] w (jA (.int .i64 E) w):=by
 subst hE;rw[<-ho.hnw];exact zKb o.W a.w o.cw w ho.hww ho.hw
theorem zLd {E:Bool}(h:kS w m mt)(ho:OkA w o a)(hE:decide (a.o=mt.ps)=E):Calls Tryz.prog 103 #[.slice o.O o.no o.co,.slice m.P m.np m.pc] w (jA (.bool E) w):=by
 have hp:=h.parts;subst hE;rw[<-ho.hno,<-hp.np];have:=hp.f.2.1;have:=ho.hmo;have:=ho.hno;exact zRf o.O m.P a.o mt.ps o.co m.pc w Kb Kb ho.ho hp.p
def zX9 (w:World)(r:List Int×Int)(e:Ending)(w':World):Prop:=∃A l c,e=.returned (.tuple #[.slice A l c,.int .i64 r.2])/\r.1.length=l/\l<=c/\zH3 w.heap.size w' (fun W=>IL W W.heap.size A r.1)/\Below w.heap.size w w'
theorem zOp.told {w w':World}(h:zOp w r e w'):zX9 w r e w':=by
 obtain⟨v,rfl,ho,hb⟩:=h;obtain⟨A,c,rfl,h1,_,h2⟩:=ho.open_;exact⟨A,_,c,rfl,rfl,h1,zI6 ho,hb⟩
structure Pth (lo:Nat)(w2:World)(A:Option Addr)(l c:Nat)(q:List Int)(W:World):Prop where
 len:q.length=l
 le:l<=1000
 cap:l<=c
 inn:InI q
 st:zH3 lo w2 (fun W=>IL W W.heap.size A q)
 hi:zA5 lo w2 W
theorem Pth.call {w2 W W':World}{c:Nat}(h:Pth lo w2 A l c q W)(hb:Below W.heap.size W W'):Pth lo w2 A l c q W':={h with hi:=h.hi.call hb}
theorem Pth.off {w2 W W':World}{c:Nat}(h:Pth lo w2 A l c q W)(ho:Off g W W')(hg:g<lo∨w2.heap.size<=g):Pth lo w2 A l c q W':={h with hi:=h.hi.off2 ho hg}
theorem Pth.has {w2 W:World}{c:Nat}(h:Pth lo w2 A l c q W):zKt W A l c q:=⟨h.len,h.le,h.cap,h.st W h.hi,h.inn⟩
theorem zI7 (ho:OkA w o a)(ta:zAf a)(hE:jV a.q=r):Calls Tryz.prog 24 #[.slice o.Q o.lq o.cq] w (zX9 w r):=by
 have hq:=ho.hasq ta;rw[<-hE];exact(zUd o.Q a.q o.lq o.cq w hq.len hq.le hq.inn hq.il).mono fun e w' h=>h.told
theorem kE7 (ho:OkA w o a)(ta:zAf a)(hE:zBg a.q=r):Calls Tryz.prog 86 #[.slice o.Q o.lq o.cq] w (zX9 w r):=by
 have hq:=ho.hasq ta;rw[<-hE];exact(zOq o.Q a.q o.lq o.cq w hq.len hq.le hq.inn hq.il).mono fun e w' h=>h.told
end
theorem Pth.grown {w2 W W':World}{c:Nat}{row:Option Nat}(h:Pth lo w2 A l c q W)(hg:W.grownBy W' row)(hr:∀j,row=some j->w2.heap.size<=j):Pth lo w2 A l c q W':=
 {h with hi:=⟨Nat.le_trans h.hi.size hg.size,fun k h1 h2=>(hg.block k (Nat.lt_of_lt_of_le h2 h.hi.size) (fun e=>by have:=hr k e.symm;omega)).trans (h.hi.block k h1 h2)⟩}
theorem zLe (n:NT):n.ks.length<=sizeT n:=by
 obtain⟨lf,ps,tx,ks⟩:=n;have h2:∀(l:List NT),l.length<=sizeK l:=fun l=>by
  induction l with
  |nil=>simp
  |cons k r ih=>have:=zJs k;simp only[List.length_cons,sizeK];omega
 have:=h2 ks;simp only[sizeT,NT.ks];omega
structure M3 (w:World)(c:NC)(o:OC)(a:NC)(W:World):Prop where
 v2:jT 26 W w.heap.size c.row
 v3:jR W (w.heap.size+1) o
 v4:jT 26 W (w.heap.size+1+1) a.row
 below:Below w.heap.size w W
section
variable {w W W':World}{c:NC}{o o':OC}{a a':NC}
theorem M3.call (h:M3 w c o a W)(hb:Below W.heap.size W W'):M3 w c o a W':=⟨h.v2.keep hb,h.v3.keep hb,h.v4.keep hb,zI h.below hb⟩
theorem M3.off (h:M3 w c o a W)(hg:w.heap.size+1+1<g)(ho:Off g W W'):M3 w c o a W':=⟨h.v2.off ho Kb,(ho.block _ h.v3.lt Kb).trans h.v3,h.v4.off ho Kb,zN h.below ho Kb⟩
theorem M3.set4 (h:M3 w c o a W)(hv:jT 26 W' (w.heap.size+1+1) a'.row)(ho:Off (w.heap.size+1+1) W W'):M3 w c o a' W':=⟨h.v2.off ho Kb,(ho.block _ h.v3.lt Kb).trans h.v3,hv,zN h.below ho Kb⟩
theorem M3.set2 (h:M3 w c o a W)(hv:jT 26 W' w.heap.size a'.row)(ho:Off w.heap.size W W'):M3 w a' o a W':=⟨hv,(ho.block _ h.v3.lt Kb).trans h.v3,h.v4.off ho Kb,zN h.below ho Kb⟩
theorem M3.set3 (h:M3 w c o a W)(hv:jR W' (w.heap.size+1) o')(ho:Off (w.heap.size+1) W W'):M3 w c o' a W':=⟨h.v2.off ho Kb,hv,h.v4.off ho Kb,zN h.below ho Kb⟩
end
theorem zDc (w:World)(c:NC)(o:OC):∃W0,((w.alloc (.cells c.row 26)).alloc (.cells o.row 35)).alloc (.cells #[.bool false,.slice none 0 0,.slice none 0 0,.slice none 0 0] 26)=W0/\M3 w c o NC.nil W0:=by
 have e1:(w.alloc (.cells c.row 26)).heap.size=w.heap.size+1:=by simp
 have e2:((w.alloc (.cells c.row 26)).alloc (.cells o.row 35)).heap.size=w.heap.size+1+1:=by simp
 have h1:=((jT.new w 26 c.row).alloc (.cells o.row 35)).alloc (.cells NC.nil.row 26);have h2:=(jR.new (w.alloc (.cells c.row 26)) o).toR.alloc (.cells NC.nil.row 26);have h3:=jT.new ((w.alloc (.cells c.row 26)).alloc (.cells o.row 35)) 26 NC.nil.row;rw[e1]at h2;rw[e2]at h3;exact⟨_,rfl,h1,h2,h3,((Kk.alloc Kl _).alloc (by rw[e1];omega) _).alloc (by rw[e2];omega) _⟩
def zEi (w:World)(r:NT×Int)(e:Ending)(w':World):Prop:=∃c:NC,e=.returned (.tuple #[.agg c.row,.int .i64 r.2])/\kS w' c r.1/\Below w.heap.size w w'
theorem kFx {w:World}{c:NC}{o:OC}{n:NT}{a:OpP}(hn:kS w c n)(ho:OkA w o a)(ta:zAf a)(hk:o.k=1)(hch:zAd a.n=E):Calls Tryz.prog 68 #[.agg c.row,.agg o.row] w (zEi w (a.n,E)):=by
 have k1:(o.k==1)=true:=by simp[hk]
 have k2:(o.k==2)=false:=by simp[hk]
 have k3:(o.k==3)=false:=by simp[hk]
 have k4:(o.k==4)=false:=by simp[hk]
 have k5:(o.k==5)=false:=by simp[hk]
 have k6:(o.k==6)=false:=by simp[hk]
 have k7:(o.k==7)=false:=by simp[hk]
 have k8:(o.k==8)=false:=by simp[hk]
 have k9:(o.k==9)=false:=by simp[hk]
 clear hk;have dw:=hd hch;have HN:=hd hn;have HO:=hd ho;have aw:=hd ta;clear hn ho ta hch;obtain⟨W0,hW,hst⟩:=zDc w c o;have HW:=hd hW;have HM:=hd hst;clear hW hst;go_enter Tryz.func68,Tryz.ntmps68
 go_upto_region 1 with fail
 rw[HW.o];clear HW;go_upto_region 8 with(first
  |((with_reducible refine zC (ty:=3) (x:=.tmp 7) ?_);refine zE HM.o.v3 (j:=0) (v:=.int .i64 o.k) _ rfl rfl rfl rfl Tryz.underlying3 rfl ?_))
 have HM:=hd (HM.o.call (Kk.drew));refine jO (S:=fun W'=>jR W' (w.heap.size+1) o) (z:=fun _=>false) Ka ?_;have aa:=hd HM.o.v3;refine Ko 0 6 (.pointer (some ⟨w.heap.size+1,4,none⟩)) aa.o ?_;simp only[Act.put,List.setIfInBounds_toArray];refine Kn 1 5 (.agg #[.bool o.lf,.slice o.P o.np o.pc,.slice o.X o.nt o.tc,.slice o.K o.nk o.kc]) (fun W9 aj=>?_) aa.o ?_
 ·exact zG3 (j:=4) (vs:=[.bool o.lf,.slice o.P o.np o.pc,.slice o.X o.nt o.tc,.slice o.K o.nk o.kc]) aj.toR zCp _ rfl rfl Ka
 simp only[Act.put];refine Ko 2 4 (.pointer (some ⟨w.heap.size+1,4,none⟩)) aa.o ?_;simp only[Act.put];refine Kn 3 3 (.agg #[.bool o.lf,.slice o.P o.np o.pc,.slice o.X o.nt o.tc,.slice o.K o.nk o.kc]) (fun W9 aj=>?_) aa.o ?_
 ·exact zG3 (j:=4) (vs:=[.bool o.lf,.slice o.P o.np o.pc,.slice o.X o.nt o.tc,.slice o.K o.nk o.kc]) aj.toR zCp _ rfl rfl Ka
 simp only[Act.put];refine Kp 4 2 (fun K hK=>?_);rw[if_pos Ka];go_simp;go_at_call 65
 refine(zFa (c:=o.nc) (HO.o.later HM.o.below).hasn dw.o).mono ?_;rintro e w5 ⟨rfl,b9⟩;have HM:=hd (HM.o.call b9);clear b9 aa;refine hK _ _ (fun _=>HM.o.v3) ?_;clear hK K;refine Kp 5 1 (fun K hK=>?_);rw[if_pos Ka];refine zY zKq HM.o.v4 _ _ rfl rfl 0 _ [.bool o.lf,.slice o.P o.np o.pc,.slice o.X o.nt o.tc,.slice o.K o.nk o.kc] rfl rfl rfl rfl (by intro u hu;simp at hu;rcases hu with rfl|rfl|rfl|rfl<;>rfl) Km ?_;intro W7 hv ho;have HM:=hd (HM.o.set4 (a':=o.nc) hv ho);clear hv ho;refine hK _ _ (fun _=>HM.o.v3) ?_;clear hK K;refine Kp 6 0 (fun K hK=>?_);rw[if_pos Ka];go_simp;refine hK _ _ (fun _=>HM.o.v3) (zAl Ka ?_);clear hK K;go_wp2_with fail
 exact bodyPost_ret (kU Tryz.results68 _ _ HM.o.v4 rfl) rfl ⟨o.nc,rfl,(HO.o.later HM.o.below).hasn,HM.o.below⟩
theorem kNk {P:Prop}(h:P:=by
 try have hq0:((o.lq:Int)==0)=false:=by simp[hlq]
 have k1:(o.k==1)=false:=by simp[hk]
 try have k2:(o.k==2)=true:=by simp[hk]
 try have k2:(o.k==2)=false:=by simp[hk]
 try have k3:(o.k==3)=true:=by simp[hk]
 try have k3:(o.k==3)=false:=by simp[hk]
 try have k4:(o.k==4)=false:=by simp[hk]
 try have k5:(o.k==5)=true:=by simp[hk]
 try have k4:(o.k==4)=true:=by simp[hk]
 try have k5:(o.k==5)=false:=by simp[hk]
 try have k6:(o.k==6)=true:=by simp[hk]
 try have k6:(o.k==6)=false:=by simp[hk]
 try have k7:(o.k==7)=true:=by simp[hk]
 try have k7:(o.k==7)=false:=by simp[hk]
 try have k8:(o.k==8)=true:=by simp[hk]
 try have k8:(o.k==8)=false:=by simp[hk]
 have k9:(o.k==9)=false:=by simp[hk]
 try have dw:=hd hch
 try have HG:=hd hg
 have HN:=hd hn;have HO:=hd ho;have aw:=hd ta;clear hk hn ho ta;try clear hch
 try clear hlq
 try clear hg
 obtain⟨W0,hW,hst⟩:=zDc w c o;have HW:=hd hW;have HM:=hd hst;clear hW hst;go_enter Tryz.func68,Tryz.ntmps68
 go_upto_region 1 with fail
 rw[HW.o];clear HW;go_wp2_with(first
  |((with_reducible refine zC (ty:=3) (x:=.tmp 7) ?_);refine zE HM.o.v3 (j:=0) (v:=.int .i64 o.k) _ rfl rfl rfl rfl Tryz.underlying3 rfl ?_)
  |((with_reducible refine zC (ty:=22) (x:=.tmp 23) ?_);refine zE HM.o.v3 (j:=9) (v:=.slice o.W o.nw o.cw) _ rfl rfl rfl rfl Tryz.underlying22 rfl ?_)
  |(go_at_call 100;refine Calls.mono (zLr (HO.o.later HM.o.below) dw.o) ?_;rintro e w1 ⟨rfl,b9⟩;have HM:=hd (HM.o.call b9);clear b9)
  |((with_reducible refine zC (ty:=27) (x:=.tmp 30) ?_);refine zE HM.o.v3 (j:=1) (v:=.slice o.Q o.lq o.cq) _ rfl rfl rfl rfl Tryz.underlying27 rfl ?_)
  |((with_reducible refine zC (ty:=27) (x:=.tmp 36) ?_);refine zE HM.o.v3 (j:=1) (v:=.slice o.Q o.lq o.cq) _ rfl rfl rfl rfl Tryz.underlying27 rfl ?_)
  |((with_reducible refine zF (ty:=26) (x:=.tmp 4) ?_);refine zA zD (r0:=NC.nil.row) (r:=cg.row) HM.o.v4 rfl rfl cg.one _ _ rfl rfl rfl rfl rfl ?_;intro W8 hv ho;have HM:=hd (HM.o.set4 (a':=cg) hv ho);have HX:=hd (HX.o.off ho Kb);clear hv ho)
  |((with_reducible refine zF (ty:=26) (x:=.tmp 4) ?_);refine zA zD (r0:=NC.nil.row) (r:=NC.nil.row) HM.o.v4 rfl rfl NC.nil.one _ _ rfl rfl rfl rfl rfl ?_;intro W7 hv ho;have HM:=hd (HM.o.set4 (a':=NC.nil) hv ho);clear hv ho)
  |((with_reducible refine zC (ty:=26) (x:=.tmp 2) ?_);refine zB zD HM.o.v2 rfl _ rfl rfl rfl ?_)
  |(go_at_call 15;refine Calls.mono (kFp (HN.o.later HM.o.below) (zKt.later (HO.o.hasq aw.o) HM.o.below) HG.o) ?_;rintro e w2 ⟨cg,rfl,hx,b9⟩;have hlo:=HM.o.v4.lt;have HX:=hd hx;have HM:=hd (HM.o.call b9);clear b9 hx;dsimp only)
  |fail)
 first
  |
   exact bodyPost_ret (kU Tryz.results68 _ _ HM.o.v4 rfl) rfl ⟨NC.nil,rfl,zAb _,HM.o.below⟩
  |
   exact bodyPost_ret (kU Tryz.results68 _ _ HM.o.v4 rfl) rfl ⟨cg,rfl,HX.o.now,HM.o.below⟩
  |fail):P:=h
theorem kIs {w:World}{c:NC}{o:OC}{n:NT}{a:OpP}(hn:kS w c n)(ho:OkA w o a)(ta:zAf a)(hk:o.k=4)(hch:chk a.w=E)(hne:(E !=0)=true):Calls Tryz.prog 68 #[.agg c.row,.agg o.row] w (zEi w (zeroT,E)):=by
 exact kNk
theorem kIt {w:World}{c:NC}{o:OC}{n:NT}{a:OpP}(hn:kS w c n)(ho:OkA w o a)(ta:zAf a)(hk:o.k=2)(hlq:o.lq=0):Calls Tryz.prog 68 #[.agg c.row,.agg o.row] w (zEi w (zeroT,6)):=by
 have hq0:((o.lq:Int)==0)=true:=by rw[hlq];rfl
 exact kNk
theorem kIu {w:World}{c:NC}{o:OC}{n:NT}{a:OpP}(hn:kS w c n)(ho:OkA w o a)(ta:zAf a)(hk:o.k=3)(hlq:o.lq=0):Calls Tryz.prog 68 #[.agg c.row,.agg o.row] w (zEi w (zeroT,6)):=by
 have hq0:((o.lq:Int)==0)=true:=by rw[hlq];rfl
 exact kNk
theorem kIv {w:World}{c:NC}{o:OC}{n:NT}{a:OpP}(hn:kS w c n)(ho:OkA w o a)(ta:zAf a)(hk:o.k=4)(hch:chk a.w=0)(hlq:o.lq=0):Calls Tryz.prog 68 #[.agg c.row,.agg o.row] w (zEi w (zeroT,6)):=by
 have hq0:((o.lq:Int)==0)=true:=by rw[hlq];rfl
 exact kNk
theorem kIw {w:World}{c:NC}{o:OC}{n:NT}{a:OpP}(hn:kS w c n)(ho:OkA w o a)(ta:zAf a)(hk:o.k=5)(hlq:o.lq=0):Calls Tryz.prog 68 #[.agg c.row,.agg o.row] w (zEi w (zeroT,6)):=by
 have hq0:((o.lq:Int)==0)=true:=by rw[hlq];rfl
 exact kNk
theorem kIx {w:World}{c:NC}{o:OC}{n:NT}{a:OpP}(hn:kS w c n)(ho:OkA w o a)(ta:zAf a)(hk:o.k=6)(hlq:o.lq=0):Calls Tryz.prog 68 #[.agg c.row,.agg o.row] w (zEi w (zeroT,6)):=by
 have hq0:((o.lq:Int)==0)=true:=by rw[hlq];rfl
 exact kNk
theorem kFy {w:World}{c:NC}{o:OC}{n:NT}{a:OpP}{r:NT×Int}(hn:kS w c n)(ho:OkA w o a)(ta:zAf a)(hk:o.k=2)(hlq:o.lq≠0)(hg:zGm n a.q=r):Calls Tryz.prog 68 #[.agg c.row,.agg o.row] w (zEi w r):=by
 exact kNk
theorem kFz {w:World}{c:NC}{o:OC}{n:NT}{a:OpP}{r:NT×Int}(hn:kS w c n)(ho:OkA w o a)(ta:zAf a)(hk:o.k=3)(hlq:o.lq≠0)(hg:zGm n a.q=r):Calls Tryz.prog 68 #[.agg c.row,.agg o.row] w (zEi w r):=by
 exact kNk
theorem kF0 {w:World}{c:NC}{o:OC}{n:NT}{a:OpP}{r:NT×Int}(hn:kS w c n)(ho:OkA w o a)(ta:zAf a)(hk:o.k=4)(hch:chk a.w=0)(hlq:o.lq≠0)(hg:zGm n a.q=r):Calls Tryz.prog 68 #[.agg c.row,.agg o.row] w (zEi w r):=by
 exact kNk
theorem kF1 {w:World}{c:NC}{o:OC}{n:NT}{a:OpP}{r:NT×Int}(hn:kS w c n)(ho:OkA w o a)(ta:zAf a)(hk:o.k=5)(hlq:o.lq≠0)(hg:zGm n a.q=r):Calls Tryz.prog 68 #[.agg c.row,.agg o.row] w (zEi w r):=by
 exact kNk
theorem kF2 {w:World}{c:NC}{o:OC}{n:NT}{a:OpP}{r:NT×Int}(hn:kS w c n)(ho:OkA w o a)(ta:zAf a)(hk:o.k=6)(hlq:o.lq≠0)(hg:zGm n a.q=r):Calls Tryz.prog 68 #[.agg c.row,.agg o.row] w (zEi w r):=by
 exact kNk
theorem kLi {w:World}{c:NC}{o:OC}{n:NT}{a:OpP}{r:NT×Int}(hn:kS w c n)(ho:OkA w o a)(ta:zAf a)(hk:o.k=7)(hg:zGm n a.q=r):Calls Tryz.prog 68 #[.agg c.row,.agg o.row] w (zEi w r):=by
 exact kNk
theorem kLj {w:World}{c:NC}{o:OC}{n:NT}{a:OpP}{r:NT×Int}(hn:kS w c n)(ho:OkA w o a)(ta:zAf a)(hk:o.k=8)(hg:zGm n a.q=r):Calls Tryz.prog 68 #[.agg c.row,.agg o.row] w (zEi w r):=by
 exact kNk
