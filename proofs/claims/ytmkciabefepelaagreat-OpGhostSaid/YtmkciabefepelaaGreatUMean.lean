import Derived.Test.YtmkciabefepelaaGreatJGCat
set_option maxRecDepth 100000
set_option maxHeartbeats 8000000
namespace Go.Proofs.YtmkciabefepelaaGreat
open Go.RowKit
variable {n:NT}{r:NT×Int}
structure M3 (w:World)(c:NC)(o:OC)(a:NC)(W:World):Prop where
 v2:jT 26 W w.heap.size c.row
 v3:jR W (w.heap.size+1) o
 v4:jT 26 W (w.heap.size+1+1) a.row
 below:Below w.heap.size w W
section
variable {w W W':World}{c:NC}{o o':OC}{a a':NC}
theorem M3.call (h:M3 w c o a W)(hb:Below W.heap.size W W'):M3 w c o a W':=⟨h.v2.keep hb,h.v3.keep hb,h.v4.keep hb,zI h.below hb⟩
theorem M3.off {g:Nat}(h:M3 w c o a W)(hg:w.heap.size+1+1<g)(ho:Off g W W'):M3 w c o a W':=⟨h.v2.off ho Kb,(ho.block _ h.v3.lt Kb).trans h.v3,h.v4.off ho Kb,zN h.below ho Kb⟩
theorem M3.set4 (h:M3 w c o a W)(hv:jT 26 W' (w.heap.size+1+1) a'.row)(ho:Off (w.heap.size+1+1) W W'):M3 w c o a' W':=⟨h.v2.off ho Kb,(ho.block _ h.v3.lt Kb).trans h.v3,hv,zN h.below ho Kb⟩
theorem M3.set2 (h:M3 w c o a W)(hv:jT 26 W' w.heap.size a'.row)(ho:Off w.heap.size W W'):M3 w a' o a W':=⟨hv,(ho.block _ h.v3.lt Kb).trans h.v3,h.v4.off ho Kb,zN h.below ho Kb⟩
theorem M3.set3 (h:M3 w c o a W)(hv:jR W' (w.heap.size+1) o')(ho:Off (w.heap.size+1) W W'):M3 w c o' a W':=⟨h.v2.off ho Kb,hv,h.v4.off ho Kb,zN h.below ho Kb⟩
end
theorem zDc (w:World)(c:NC)(o:OC):∃W0,((w.alloc (.cells c.row 26)).alloc (.cells o.row 35)).alloc (.cells #[.bool false,.slice none 0 0,.slice none 0 0,.slice none 0 0] 26)=W0/\M3 w c o NC.nil W0:=by
 have e1:(w.alloc (.cells c.row 26)).heap.size=w.heap.size+1:=by simp
 have e2:((w.alloc (.cells c.row 26)).alloc (.cells o.row 35)).heap.size=w.heap.size+1+1:=by simp
 have h1:=((jT.new w 26 c.row).alloc (.cells o.row 35)).alloc (.cells NC.nil.row 26);have h2:=(jR.new (w.alloc (.cells c.row 26)) o).toR.alloc (.cells NC.nil.row 26);have h3:=jT.new ((w.alloc (.cells c.row 26)).alloc (.cells o.row 35)) 26 NC.nil.row;rw[e1]at h2;rw[e2]at h3;exact⟨_,rfl,h1,h2,h3,((Kl.alloc Km _).alloc (by rw[e1];omega) _).alloc (by rw[e2];omega) _⟩
def zEi (w:World)(r:NT×Int)(e:Ending)(w':World):Prop:=∃c:NC,e=.returned (.tuple #[.agg c.row,.int .i64 r.2])/\kS w' c r.1/\Below w.heap.size w w'
theorem kFx {w:World}{c:NC}{o:OC}{a:OpP}{E:Int}(hn:kS w c n)(ho:OkA w o a)(ta:zAf a)(hk:o.k=1)(hch:zAd a.n=E):Calls Tryz.prog 79 #[.agg c.row,.agg o.row] w (zEi w (a.n,E)):=by
 have k1:(o.k==1)=true:=by simp[hk]
 have k2:(o.k==2)=false:=by simp[hk]
 have k3:(o.k==3)=false:=by simp[hk]
 have k4:(o.k==4)=false:=by simp[hk]
 have k5:(o.k==5)=false:=by simp[hk]
 have k6:(o.k==6)=false:=by simp[hk]
 have k7:(o.k==7)=false:=by simp[hk]
 have k8:(o.k==8)=false:=by simp[hk]
 have k9:(o.k==9)=false:=by simp[hk]
 clear hk;have dP:=hd hch;have HN:=hd hn;have HO:=hd ho;have au:=hd ta;clear hn ho ta hch;obtain⟨W0,hW,hst⟩:=zDc w c o;have HW:=hd hW;have HM:=hd hst;clear hW hst;go_enter Tryz.func79,Tryz.ntmps79
 go_upto_region 1 with fail
 rw[HW.o];clear HW;go_upto_region 8 with(first
  |((with_reducible refine zC (ty:=3) (x:=.tmp 7) ?_);refine zE HM.o.v3 (j:=0) (v:=.int .i64 o.k) _ rfl rfl rfl rfl Tryz.underlying3 rfl ?_))
 have HM:=hd (HM.o.call (Kl.drew));refine jO (S:=fun W'=>jR W' (w.heap.size+1) o) (z:=fun _=>false) Ka ?_;have aa:=hd HM.o.v3;refine Kp 0 6 (.pointer (some ⟨w.heap.size+1,4,none⟩)) aa.o ?_;simp only[Act.put,List.setIfInBounds_toArray];refine Ko 1 5 (.agg #[.bool o.lf,.slice o.P o.np o.pc,.slice o.X o.nt o.tc,.slice o.K o.nk o.kc]) (fun W9 ag=>?_) aa.o ?_
 ·exact zG3 (j:=4) (vs:=[.bool o.lf,.slice o.P o.np o.pc,.slice o.X o.nt o.tc,.slice o.K o.nk o.kc]) ag.toR zCp _ rfl rfl Ka
 simp only[Act.put];refine Kp 2 4 (.pointer (some ⟨w.heap.size+1,4,none⟩)) aa.o ?_;simp only[Act.put];refine Ko 3 3 (.agg #[.bool o.lf,.slice o.P o.np o.pc,.slice o.X o.nt o.tc,.slice o.K o.nk o.kc]) (fun W9 ag=>?_) aa.o ?_
 ·exact zG3 (j:=4) (vs:=[.bool o.lf,.slice o.P o.np o.pc,.slice o.X o.nt o.tc,.slice o.K o.nk o.kc]) ag.toR zCp _ rfl rfl Ka
 simp only[Act.put];refine Kq 4 2 (fun K hK=>?_);rw[if_pos Ka];go_simp;go_at_call 18
 refine(zFa (c:=o.nc) (HO.o.later HM.o.below).hasn dP.o).mono ?_;rintro e w5 ⟨rfl,b9⟩;have HM:=hd (HM.o.call b9);clear b9 aa;refine hK _ _ (fun _=>HM.o.v3) ?_;clear hK K;refine Kq 5 1 (fun K hK=>?_);rw[if_pos Ka];refine zY zKq HM.o.v4 _ _ rfl rfl 0 _ [.bool o.lf,.slice o.P o.np o.pc,.slice o.X o.nt o.tc,.slice o.K o.nk o.kc] rfl rfl rfl rfl (by intro u hu;simp at hu;rcases hu with rfl|rfl|rfl|rfl<;>rfl) Kn ?_;intro W7 hv ho;have HM:=hd (HM.o.set4 (a':=o.nc) hv ho);clear hv ho;refine hK _ _ (fun _=>HM.o.v3) ?_;clear hK K;refine Kq 6 0 (fun K hK=>?_);rw[if_pos Ka];go_simp;refine hK _ _ (fun _=>HM.o.v3) (zAl Ka ?_);clear hK K;go_wp2_with fail
 exact bodyPost_ret (kU Tryz.results79 _ _ HM.o.v4 rfl) rfl ⟨o.nc,rfl,(HO.o.later HM.o.below).hasn,HM.o.below⟩
theorem kNx {P:Prop}(h:P:=by
 try have hq0:((o.lq:Int)==0)=false:=by simp[hlq]
 have k1:(o.k==1)=false:=by simp[hk]
 try have k2:(o.k==2)=true:=by simp[hk]
 try have k2:(o.k==2)=false:=by simp[hk]
 try have k3:(o.k==3)=true:=by simp[hk]
 try have k3:(o.k==3)=false:=by simp[hk]
 try have k4:(o.k==4)=false:=by simp[hk]
 try have k5:(o.k==5)=true:=by simp[hk]
 try have k4:(o.k==4)=true:=by simp[hk]
 try have k5:(o.k==5)=false:=by simp[hk]
 try have k6:(o.k==6)=true:=by simp[hk]
 try have k6:(o.k==6)=false:=by simp[hk]
 try have k7:(o.k==7)=true:=by simp[hk]
 try have k7:(o.k==7)=false:=by simp[hk]
 try have k8:(o.k==8)=true:=by simp[hk]
 try have k8:(o.k==8)=false:=by simp[hk]
 have k9:(o.k==9)=false:=by simp[hk]
 try have dP:=hd hch
 try have HG:=hd hg
 have HN:=hd hn;have HO:=hd ho;have au:=hd ta;clear hk hn ho ta;try clear hch
 try clear hlq
 try clear hg
 obtain⟨W0,hW,hst⟩:=zDc w c o;have HW:=hd hW;have HM:=hd hst;clear hW hst;go_enter Tryz.func79,Tryz.ntmps79
 go_upto_region 1 with fail
 rw[HW.o];clear HW;go_wp2_with(first
  |((with_reducible refine zC (ty:=3) (x:=.tmp 7) ?_);refine zE HM.o.v3 (j:=0) (v:=.int .i64 o.k) _ rfl rfl rfl rfl Tryz.underlying3 rfl ?_)
  |((with_reducible refine zC (ty:=22) (x:=.tmp 23) ?_);refine zE HM.o.v3 (j:=9) (v:=.slice o.W o.nw o.cw) _ rfl rfl rfl rfl Tryz.underlying22 rfl ?_)
  |(go_at_call 109;refine Calls.mono (zLr (HO.o.later HM.o.below) dP.o) ?_;rintro e w1 ⟨rfl,b9⟩;have HM:=hd (HM.o.call b9);clear b9)
  |((with_reducible refine zC (ty:=27) (x:=.tmp 30) ?_);refine zE HM.o.v3 (j:=1) (v:=.slice o.Q o.lq o.cq) _ rfl rfl rfl rfl Tryz.underlying27 rfl ?_)
  |((with_reducible refine zC (ty:=27) (x:=.tmp 36) ?_);refine zE HM.o.v3 (j:=1) (v:=.slice o.Q o.lq o.cq) _ rfl rfl rfl rfl Tryz.underlying27 rfl ?_)
  |((with_reducible refine zF (ty:=26) (x:=.tmp 4) ?_);refine zA zD (r0:=NC.nil.row) (r:=cg.row) HM.o.v4 rfl rfl cg.one _ _ rfl rfl rfl rfl rfl ?_;intro W8 hv ho;have HM:=hd (HM.o.set4 (a':=cg) hv ho);have HX:=hd (HX.o.off ho Kb);clear hv ho)
  |((with_reducible refine zF (ty:=26) (x:=.tmp 4) ?_);refine zA zD (r0:=NC.nil.row) (r:=NC.nil.row) HM.o.v4 rfl rfl NC.nil.one _ _ rfl rfl rfl rfl rfl ?_;intro W7 hv ho;have HM:=hd (HM.o.set4 (a':=NC.nil) hv ho);clear hv ho)
  |((with_reducible refine zC (ty:=26) (x:=.tmp 2) ?_);refine zB zD HM.o.v2 rfl _ rfl rfl rfl ?_)
  |(go_at_call 30;refine Calls.mono (kFp (HN.o.later HM.o.below) (zKt.later (HO.o.hasq au.o) HM.o.below) HG.o) ?_;rintro e w2 ⟨cg,rfl,hx,b9⟩;have hlo:=HM.o.v4.lt;have HX:=hd hx;have HM:=hd (HM.o.call b9);clear b9 hx;dsimp only)
  |fail)
 first
  |
   exact bodyPost_ret (kU Tryz.results79 _ _ HM.o.v4 rfl) rfl ⟨NC.nil,rfl,zAb _,HM.o.below⟩
  |
   exact bodyPost_ret (kU Tryz.results79 _ _ HM.o.v4 rfl) rfl ⟨cg,rfl,HX.o.now,HM.o.below⟩
  |fail):P:=h
theorem kIs {w:World}{c:NC}{o:OC}{a:OpP}{E:Int}(hn:kS w c n)(ho:OkA w o a)(ta:zAf a)(hk:o.k=4)(hch:chk a.w=E)(hne:(E !=0)=true):Calls Tryz.prog 79 #[.agg c.row,.agg o.row] w (zEi w (zeroT,E)):=by
 exact kNx
theorem kIt {w:World}{c:NC}{o:OC}{a:OpP}(hn:kS w c n)(ho:OkA w o a)(ta:zAf a)(hk:o.k=2)(hlq:o.lq=0):Calls Tryz.prog 79 #[.agg c.row,.agg o.row] w (zEi w (zeroT,6)):=by
 have hq0:((o.lq:Int)==0)=true:=by rw[hlq];rfl
 exact kNx
theorem kIu {w:World}{c:NC}{o:OC}{a:OpP}(hn:kS w c n)(ho:OkA w o a)(ta:zAf a)(hk:o.k=3)(hlq:o.lq=0):Calls Tryz.prog 79 #[.agg c.row,.agg o.row] w (zEi w (zeroT,6)):=by
 have hq0:((o.lq:Int)==0)=true:=by rw[hlq];rfl
 exact kNx
theorem kIv {w:World}{c:NC}{o:OC}{a:OpP}(hn:kS w c n)(ho:OkA w o a)(ta:zAf a)(hk:o.k=4)(hch:chk a.w=0)(hlq:o.lq=0):Calls Tryz.prog 79 #[.agg c.row,.agg o.row] w (zEi w (zeroT,6)):=by
 have hq0:((o.lq:Int)==0)=true:=by rw[hlq];rfl
 exact kNx
theorem kIw {w:World}{c:NC}{o:OC}{a:OpP}(hn:kS w c n)(ho:OkA w o a)(ta:zAf a)(hk:o.k=5)(hlq:o.lq=0):Calls Tryz.prog 79 #[.agg c.row,.agg o.row] w (zEi w (zeroT,6)):=by
 have hq0:((o.lq:Int)==0)=true:=by rw[hlq];rfl
 exact kNx
theorem kIx {w:World}{c:NC}{o:OC}{a:OpP}(hn:kS w c n)(ho:OkA w o a)(ta:zAf a)(hk:o.k=6)(hlq:o.lq=0):Calls Tryz.prog 79 #[.agg c.row,.agg o.row] w (zEi w (zeroT,6)):=by
 have hq0:((o.lq:Int)==0)=true:=by rw[hlq];rfl
 exact kNx
theorem kFy {w:World}{c:NC}{o:OC}{a:OpP}(hn:kS w c n)(ho:OkA w o a)(ta:zAf a)(hk:o.k=2)(hlq:o.lq≠0)(hg:zGm n a.q=r):Calls Tryz.prog 79 #[.agg c.row,.agg o.row] w (zEi w r):=by
 exact kNx
theorem kFz {w:World}{c:NC}{o:OC}{a:OpP}(hn:kS w c n)(ho:OkA w o a)(ta:zAf a)(hk:o.k=3)(hlq:o.lq≠0)(hg:zGm n a.q=r):Calls Tryz.prog 79 #[.agg c.row,.agg o.row] w (zEi w r):=by
 exact kNx
theorem kF0 {w:World}{c:NC}{o:OC}{a:OpP}(hn:kS w c n)(ho:OkA w o a)(ta:zAf a)(hk:o.k=4)(hch:chk a.w=0)(hlq:o.lq≠0)(hg:zGm n a.q=r):Calls Tryz.prog 79 #[.agg c.row,.agg o.row] w (zEi w r):=by
 exact kNx
theorem kF1 {w:World}{c:NC}{o:OC}{a:OpP}(hn:kS w c n)(ho:OkA w o a)(ta:zAf a)(hk:o.k=5)(hlq:o.lq≠0)(hg:zGm n a.q=r):Calls Tryz.prog 79 #[.agg c.row,.agg o.row] w (zEi w r):=by
 exact kNx
theorem kF2 {w:World}{c:NC}{o:OC}{a:OpP}(hn:kS w c n)(ho:OkA w o a)(ta:zAf a)(hk:o.k=6)(hlq:o.lq≠0)(hg:zGm n a.q=r):Calls Tryz.prog 79 #[.agg c.row,.agg o.row] w (zEi w r):=by
 exact kNx
theorem kLi {w:World}{c:NC}{o:OC}{a:OpP}(hn:kS w c n)(ho:OkA w o a)(ta:zAf a)(hk:o.k=7)(hg:zGm n a.q=r):Calls Tryz.prog 79 #[.agg c.row,.agg o.row] w (zEi w r):=by
 exact kNx
theorem kLj {w:World}{c:NC}{o:OC}{a:OpP}(hn:kS w c n)(ho:OkA w o a)(ta:zAf a)(hk:o.k=8)(hg:zGm n a.q=r):Calls Tryz.prog 79 #[.agg c.row,.agg o.row] w (zEi w r):=by
 exact kNx
