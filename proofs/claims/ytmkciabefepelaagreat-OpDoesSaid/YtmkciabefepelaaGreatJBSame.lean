import Derived.Test.YtmkciabefepelaaGreatBEmpty
import Derived.Test.YtmkciabefepelaaGreatBWith
import Derived.Test.YtmkciabefepelaaGreatBFields
set_option maxRecDepth 100000
set_option maxHeartbeats 8000000
namespace Go.Proofs.YtmkciabefepelaaGreat
open Go.RowKit
variable {P:Prop}{w:World}{c:OC}{a:OpP}
theorem kVo (w:World)(c d:OC)(a b:OpP)(ha:OkA w c a)(hb:OkA w d b)(ta:zAf a)(tb:zAf b)  (hk:(c.k==d.k)=false):Calls Tryz.prog 93 #[.agg c.row,.agg d.row] w (jA (.bool false) w):=by
 obtain⟨W0,hW,hb0,hsz,e1,e2⟩:=kTe w c d;have aY:=hd (fun W(h:Below W0.heap.size W0 W)=>e1.keep h);have fU:=hd (fun W(h:Below W0.heap.size W0 W)=>e2.keep h);have cW:=hd (fun W(h:Below W0.heap.size W0 W)=>(ha.later hb0).later h);have mA:=hd (fun W(h:Below W0.heap.size W0 W)=>(hb.later hb0).later h);have aA:=hd ta;have eB:=hd tb;have HW:=hd hW;have dW:=hd hb0;have aa:=hd (Below.refl W0.heap.size W0);have tJ:=(aY.o _ aa.o).ck;have xj:=(fU.o _ aa.o).ck;have qf:=(aY.o _ aa.o).cq;have xk:=(fU.o _ aa.o).cq;clear hW hb0 hsz e1 e2 ha hb ta tb;go_enter Tryz.func93,Tryz.ntmps93
 go_upto_region 1 with fail
 rw[HW.o];go_wp2_with fail
 go_ret
 exact⟨rfl,dW.o.trans (aa.o.mono dW.o.size)⟩
theorem kNz (h:P:=by
 obtain⟨W0,hW,hb0,hsz,e1,e2⟩:=kTe w c d;have aY:=hd (fun W(h:Below W0.heap.size W0 W)=>e1.keep h);have fU:=hd (fun W(h:Below W0.heap.size W0 W)=>e2.keep h);have cW:=hd (fun W(h:Below W0.heap.size W0 W)=>(ha.later hb0).later h);have mA:=hd (fun W(h:Below W0.heap.size W0 W)=>(hb.later hb0).later h);have aA:=hd ta;have eB:=hd tb;have HW:=hd hW;have dW:=hd hb0;have aa:=hd (Below.refl W0.heap.size W0);have tJ:=(aY.o _ aa.o).ck;have xj:=(fU.o _ aa.o).ck;have qf:=(aY.o _ aa.o).cq;have xk:=(fU.o _ aa.o).cq;have Hq:=hd hq;try have Ht:=hd ht
 try have Hn:=hd hn
 try have Ho:=hd ho
 try have Hw:=hd hw
 try have Hx:=hd hx
 try have Hf:=hd hf
 try have Hg:=hd hg
 clear hW hb0 hsz e1 e2 ha hb ta tb hq;try clear ht
 try clear hn
 try clear ho
 try clear hw
 try clear hx
 try clear hf
 try clear hg
 go_enter Tryz.func93,Tryz.ntmps93
 go_upto_region 1 with fail
 rw[HW.o];go_wp2_with(first
  |(go_at_call 107;have _g:=Hq;refine Calls.mono (kYb (cW.o _ aa.o) (mA.o _ aa.o) aA.o eB.o Hq.o) ?_;clear Hq;rintro e w9 ⟨rfl,b9⟩;have aa:=hd (zI aa.o b9);clear b9 qf xk tJ xj;have jd:=(aY.o _ aa.o).ct;have Aa:=(fU.o _ aa.o).ct)
  |(go_at_call 107;have _g:=Ht;refine Calls.mono (kYc (cW.o _ aa.o) (mA.o _ aa.o) aA.o eB.o Ht.o) ?_;clear Ht;rintro e w9 ⟨rfl,b9⟩;have aa:=hd (zI aa.o b9);clear b9 jd Aa;have qO:=(aY.o _ aa.o).cz;have Ab:=(fU.o _ aa.o).cz;obtain⟨qP,qQ,qR,qT⟩:=(aY.o _ aa.o).cn;obtain⟨Ac,Ad,Ae,Ah⟩:=(fU.o _ aa.o).cn)
  |(go_at_call 15;have _g:=Hn;refine Calls.mono (kYd (cW.o _ aa.o) (mA.o _ aa.o) Hn.o) ?_;clear Hn;rintro e w9 ⟨rfl,b9⟩;have aa:=hd (zI aa.o b9);clear b9 qP qQ qR qT Ac Ad Ae Ah qO Ab;have jt:=(aY.o _ aa.o).co;have Ai:=(fU.o _ aa.o).co)
  |(go_at_call 50;have _g:=Ho;refine Calls.mono (kYe (cW.o _ aa.o) (mA.o _ aa.o) Ho.o) ?_;clear Ho;rintro e w9 ⟨rfl,b9⟩;have aa:=hd (zI aa.o b9);clear b9 jt Ai;have lL:=(aY.o _ aa.o).cw;have Aj:=(fU.o _ aa.o).cw)
  |(go_at_call 50;have _g:=Hw;refine Calls.mono (kYf (cW.o _ aa.o) (mA.o _ aa.o) Hw.o) ?_;clear Hw;rintro e w9 ⟨rfl,b9⟩;have aa:=hd (zI aa.o b9);clear b9 lL Aj;have mn:=(aY.o _ aa.o).cx;have Ak:=(fU.o _ aa.o).cx)
  |(go_at_call 51;have _g:=Hx;refine Calls.mono (kYg (cW.o _ aa.o) (mA.o _ aa.o) Hx.o) ?_;clear Hx;rintro e w9 ⟨rfl,b9⟩;have aa:=hd (zI aa.o b9);clear b9 mn Ak;obtain⟨qE,qF,qG,qH,qI⟩:=(aY.o _ aa.o).cf;obtain⟨Al,Am,Ar,Av,Ay⟩:=(fU.o _ aa.o).cf)
  |(go_at_call 16;have _g:=Hf;refine Calls.mono (kYh (cW.o _ aa.o) (mA.o _ aa.o) aA.o eB.o Hf.o) ?_;clear Hf;rintro e w9 ⟨rfl,b9⟩;have aa:=hd (zI aa.o b9);clear b9 qE qF qG qH qI Al Am Ar Av Ay;obtain⟨qJ,qK,qL,qM,qN⟩:=(aY.o _ aa.o).cg;obtain⟨Az,A4,A7,AA,AB⟩:=(fU.o _ aa.o).cg)
  |(go_at_call 16;have _g:=Hg;refine Calls.mono (kYi (cW.o _ aa.o) (mA.o _ aa.o) aA.o eB.o Hg.o) ?_;clear Hg;rintro e w9 ⟨rfl,b9⟩;have aa:=hd (zI aa.o b9);clear b9 qJ qK qL qM qN Az A4 A7 AA AB)
  |fail)
 go_ret
 exact⟨rfl,dW.o.trans (aa.o.mono dW.o.size)⟩):P:=h
theorem kVp (w:World)(c d:OC)(a b:OpP)(ha:OkA w c a)(hb:OkA w d b)(ta:zAf a)(tb:zAf b)(hk:(c.k==d.k)=true)(hq:zEd a.q b.q=false):Calls Tryz.prog 93 #[.agg c.row,.agg d.row] w (jA (.bool false) w):=by
 exact kNz
theorem kVq (w:World)(c d:OC)(a b:OpP)(ha:OkA w c a)(hb:OkA w d b)(ta:zAf a)(tb:zAf b)(hk:(c.k==d.k)=true)(hq:zEd a.q b.q=true)(ht:zEd a.t b.t=false):Calls Tryz.prog 93 #[.agg c.row,.agg d.row] w (jA (.bool false) w):=by
 exact kNz
theorem kVr (w:World)(c d:OC)(a b:OpP)(ha:OkA w c a)(hb:OkA w d b)(ta:zAf a)(tb:zAf b)(hk:(c.k==d.k)=true)(hq:zEd a.q b.q=true)(ht:zEd a.t b.t=true)(hz:(c.z==d.z)=false):Calls Tryz.prog 93 #[.agg c.row,.agg d.row] w (jA (.bool false) w):=by
 exact kNz
theorem kVs (w:World)(c d:OC)(a b:OpP)(ha:OkA w c a)(hb:OkA w d b)(ta:zAf a)(tb:zAf b)(hk:(c.k==d.k)=true)(hq:zEd a.q b.q=true)(ht:zEd a.t b.t=true)(hz:(c.z==d.z)=true)(hn:eqT a.n b.n=false):Calls Tryz.prog 93 #[.agg c.row,.agg d.row] w (jA (.bool false) w):=by
 exact kNz
theorem kVt (w:World)(c d:OC)(a b:OpP)(ha:OkA w c a)(hb:OkA w d b)(ta:zAf a)(tb:zAf b)(hk:(c.k==d.k)=true)(hq:zEd a.q b.q=true)(ht:zEd a.t b.t=true)(hz:(c.z==d.z)=true)(hn:eqT a.n b.n=true)(ho:decide (a.o=b.o)=false):Calls Tryz.prog 93 #[.agg c.row,.agg d.row] w (jA (.bool false) w):=by
 exact kNz
theorem kVu (w:World)(c d:OC)(a b:OpP)(ha:OkA w c a)(hb:OkA w d b)(ta:zAf a)(tb:zAf b)(hk:(c.k==d.k)=true)(hq:zEd a.q b.q=true)(ht:zEd a.t b.t=true)(hz:(c.z==d.z)=true)(hn:eqT a.n b.n=true)(ho:decide (a.o=b.o)=true)(hw:decide (a.w=b.w)=false):Calls Tryz.prog 93 #[.agg c.row,.agg d.row] w (jA (.bool false) w):=by
 exact kNz
theorem kVv (w:World)(c d:OC)(a b:OpP)(ha:OkA w c a)(hb:OkA w d b)(ta:zAf a)(tb:zAf b)(hk:(c.k==d.k)=true)(hq:zEd a.q b.q=true)(ht:zEd a.t b.t=true)(hz:(c.z==d.z)=true)(hn:eqT a.n b.n=true)(ho:decide (a.o=b.o)=true)(hw:decide (a.w=b.w)=true)(hx:sameL a.x b.x=false):Calls Tryz.prog 93 #[.agg c.row,.agg d.row] w (jA (.bool false) w):=by
 exact kNz
theorem kVw (w:World)(c d:OC)(a b:OpP)(ha:OkA w c a)(hb:OkA w d b)(ta:zAf a)(tb:zAf b)(hk:(c.k==d.k)=true)(hq:zEd a.q b.q=true)(ht:zEd a.t b.t=true)(hz:(c.z==d.z)=true)(hn:eqT a.n b.n=true)(ho:decide (a.o=b.o)=true)(hw:decide (a.w=b.w)=true)(hx:sameL a.x b.x=true)(hf:zF7 a.f b.f=false):Calls Tryz.prog 93 #[.agg c.row,.agg d.row] w (jA (.bool false) w):=by
 exact kNz
theorem kVx (w:World)(c d:OC)(a b:OpP)(ha:OkA w c a)(hb:OkA w d b)(ta:zAf a)(tb:zAf b)(hk:(c.k==d.k)=true)(hq:zEd a.q b.q=true)(ht:zEd a.t b.t=true)(hz:(c.z==d.z)=true)(hn:eqT a.n b.n=true)(ho:decide (a.o=b.o)=true)(hw:decide (a.w=b.w)=true)(hx:sameL a.x b.x=true)(hf:zF7 a.f b.f=true)(hg:zF7 a.g b.g=false):Calls Tryz.prog 93 #[.agg c.row,.agg d.row] w (jA (.bool false) w):=by
 exact kNz
theorem kUm (w:World)(c d:OC)(a b:OpP)(ha:OkA w c a)(hb:OkA w d b)(ta:zAf a)(tb:zAf b)(hk:(c.k==d.k)=true)(hq:zEd a.q b.q=true)(ht:zEd a.t b.t=true)(hz:(c.z==d.z)=true)(hn:eqT a.n b.n=true)(ho:decide (a.o=b.o)=true)(hw:decide (a.w=b.w)=true)(hx:sameL a.x b.x=true)(hf:zF7 a.f b.f=true)(hg:zF7 a.g b.g=true):Calls Tryz.prog 93 #[.agg c.row,.agg d.row] w (jA (.bool true) w):=by
 exact kNz
theorem kSs {d:OC}{b:OpP}{E:Bool}(ha:OkA w c a)(hb:OkA w d b)(ta:zAf a)(tb:zAf b)(hE:eqO a b=E):Calls Tryz.prog 93 #[.agg c.row,.agg d.row] w (jA (.bool E) w):=by
 subst hE;rw[zYw,ha.hk,hb.hk,ha.hz,hb.hz];cases hk:(c.k==d.k)
 ·have h:=kVo w c d a b ha hb ta tb  hk;simpa[hk]using h
 cases hq:zEd a.q b.q
 ·have h:=kVp w c d a b ha hb ta tb hk hq;simpa[hk,hq]using h
 cases ht:zEd a.t b.t
 ·have h:=kVq w c d a b ha hb ta tb hk hq ht;simpa[hk,hq,ht]using h
 cases hz:(c.z==d.z)
 ·have h:=kVr w c d a b ha hb ta tb hk hq ht hz;simpa[hk,hq,ht,hz]using h
 cases hn:eqT a.n b.n
 ·have h:=kVs w c d a b ha hb ta tb hk hq ht hz hn;simpa[hk,hq,ht,hz,hn]using h
 cases ho:decide (a.o=b.o)
 ·have h:=kVt w c d a b ha hb ta tb hk hq ht hz hn ho;simpa[hk,hq,ht,hz,hn,ho]using h
 cases hw:decide (a.w=b.w)
 ·have h:=kVu w c d a b ha hb ta tb hk hq ht hz hn ho hw;simpa[hk,hq,ht,hz,hn,ho,hw]using h
 cases hx:sameL a.x b.x
 ·have h:=kVv w c d a b ha hb ta tb hk hq ht hz hn ho hw hx;simpa[hk,hq,ht,hz,hn,ho,hw,hx]using h
 cases hf:zF7 a.f b.f
 ·have h:=kVw w c d a b ha hb ta tb hk hq ht hz hn ho hw hx hf;simpa[hk,hq,ht,hz,hn,ho,hw,hx,hf]using h
 cases hg:zF7 a.g b.g
 ·have h:=kVx w c d a b ha hb ta tb hk hq ht hz hn ho hw hx hf hg;simpa[hk,hq,ht,hz,hn,ho,hw,hx,hf,hg]using h
 have h:=kUm w c d a b ha hb ta tb hk hq ht hz hn ho hw hx hf hg;simpa using h
theorem zKx (t:zAf a):zAf (jB a):=by
 obtain⟨h1,h2,h3,h4,h5,h6,h7,h8,h9⟩:=t;unfold jB;split<;>(try split)<;>(try split)<;>(try split)<;>(try split)<;>(try split)<;>(try split)<;>(try split)<;>(try split)<;>constructor<;>first|assumption|simp[zeroS]
theorem kRs (t:zAf a):zAf (fieldsO a):=by
 obtain⟨h1,h2,h3,h4,h5,h6,h7,h8,h9⟩:=t;unfold fieldsO;split<;>(try split)<;>(try split)<;>(try split)<;>(try split)<;>(try split)<;>(try split)<;>(try split)<;>(try split)<;>constructor<;>first|assumption|simp[zeroO,zeroS]
theorem kPz (h:P:=by
 have lM:=hd (show zFf c.k from ha.hk▸ha.hik);obtain⟨u,hu⟩:∃u,zA0 c.k=u:=⟨_,rfl⟩;rw[hu]at h0;have HU:=hd hu;have hb0:=zQ w (.cells c.row 35);obtain⟨W0,hW⟩:∃W0,w.alloc (.cells c.row 35)=W0:=⟨_,rfl⟩;have e1:=jR.new w c;rw[hW]at hb0 e1;have aY:=hd (fun W(h:Below W0.heap.size W0 W)=>e1.keep h);have cW:=hd (fun W(h:Below W0.heap.size W0 W)=>(ha.later hb0).later h);have HW:=hd hW;have dW:=hd hb0;have aa:=hd (Below.refl W0.heap.size W0);have aA:=hd ta;have mB:=hd (zKx ta);have tJ:=(aY.o _ aa.o).ck;try have HB:=hd hb
 clear hu;try clear hb
 clear hW hb0 e1 ha ta;go_enter Tryz.func58,Tryz.ntmps58
 go_upto_region 1 with fail
 rw[HW.o];go_wp2_with(first
  |(go_at_call 60;refine Calls.mono (zBk _ lM.o _) ?_;rintro e w9 ⟨rfl,b9⟩;have aa:=hd (zI aa.o b9);clear b9 tJ;rw[HU.o])
  |(go_at_call 113;refine Calls.mono (zSh _ _ _ (cW.o _ aa.o)) ?_;rintro e w9 ⟨cx,rfl,ox,b9⟩;have HX:=hd ox;have aa:=hd (zI aa.o b9);clear b9 ox)
  |(go_at_call 112;refine Calls.mono (kB1 HX.o mB.o HB.o) ?_;rintro e w9 ⟨rfl,b9⟩;have aa:=hd (zI aa.o b9);clear b9)
  |((with_reducible refine kH (ty:=35) (x:=.tmp 1) ?_);refine zDq (aY.o _ aa.o) _ rfl Ke rfl ?_)
  |fail)
 go_ret
 exact⟨rfl,dW.o.trans (aa.o.mono dW.o.size)⟩):P:=h
theorem kGj (w:World)(c:OC)(a:OpP)(ha:OkA w c a)(ta:zAf a)(h0:(zA0 c.k==0)=true):Calls Tryz.prog 58 #[.agg c.row] w (jA (.int .i64 1) w):=by
 exact kPz
theorem kGk (w:World)(c:OC)(a:OpP)(ha:OkA w c a)(ta:zAf a)(h0:(zA0 c.k==0)=false)(hb:bareB (jB a)=true):Calls Tryz.prog 58 #[.agg c.row] w (jA (.int .i64 0) w):=by
 exact kPz
theorem kGl (w:World)(c:OC)(a:OpP)(ha:OkA w c a)(ta:zAf a)(h0:(zA0 c.k==0)=false)(hb:bareB (jB a)=false):Calls Tryz.prog 58 #[.agg c.row] w (jA (.int .i64 1) w):=by
 exact kPz
theorem zFt {E:Int}(ha:OkA w c a)(ta:zAf a)(hE:zCx a=E):Calls Tryz.prog 58 #[.agg c.row] w (jA (.int .i64 E) w):=by
 subst hE;unfold zCx;rw[ha.hk];cases h0:(zA0 c.k==0)
 ·rw[if_neg (by simpa using h0)];cases hb:bareB (jB a)
  ·exact kGl w c a ha ta h0 hb
  ·exact kGk w c a ha ta h0 hb
 ·rw[if_pos (by simpa using h0)];exact kGj w c a ha ta h0
theorem kP0 (h:P:=by
 have hb0:=zQ w (.cells c.row 35);obtain⟨W0,hW⟩:∃W0,w.alloc (.cells c.row 35)=W0:=⟨_,rfl⟩;have e1:=jR.new w c;rw[hW]at hb0 e1;have aY:=hd (fun W(h:Below W0.heap.size W0 W)=>e1.keep h);have cW:=hd (fun W(h:Below W0.heap.size W0 W)=>(ha.later hb0).later h);have HW:=hd hW;have dW:=hd hb0;have aa:=hd (Below.refl W0.heap.size W0);have aA:=hd ta;have mB:=hd (kRs ta);have AC:=hd hk;try have HE:=hd he
 clear hk;try clear he
 clear hW hb0 e1 ha ta;go_enter Tryz.func47,Tryz.ntmps47
 go_upto_region 1 with fail
 rw[HW.o];go_wp2_with(first
  |((with_reducible refine zC (ty:=35) ?_);refine zG (aY.o _ aa.o) _ rfl rfl rfl ?_)
  |(go_at_call 92;refine Calls.mono (kSn _ _ _ (cW.o _ aa.o)) ?_;rintro e w9 ⟨cx,rfl,ox,b9⟩;have HX:=hd ox;have aa:=hd (zI aa.o b9);clear b9 ox;dsimp only;rw[AC.o])
  |((with_reducible refine zF (ty:=35) (x:=.tmp 3) ?_);refine zAe (c:=cx) _ _ rfl rfl rfl rfl rfl rfl rfl ?_;have br:=zQ w9 (.cells (OC.row cx) 35);have AE:=hd (jR.new w9 cx);have HX:=hd (HX.o.later br);have aa:=hd (zI aa.o br);clear br)
  |(go_at_call 93;refine Calls.mono (kSs HX.o (cW.o _ aa.o) mB.o aA.o HE.o) ?_;rintro e w9 ⟨rfl,b9⟩;have aa:=hd (zI aa.o b9);clear b9)
  |((with_reducible refine kH (ty:=35) (x:=.tmp 3) ?_);refine zDq AE.o _ rfl Ke rfl ?_)
  |((with_reducible refine kH (ty:=35) (x:=.tmp 1) ?_);refine zDq (aY.o _ aa.o) _ rfl Ke rfl ?_)
  |fail)
 go_ret
 exact⟨rfl,dW.o.trans (aa.o.mono dW.o.size)⟩):P:=h
theorem kUn (w:World)(c:OC)(a:OpP)(ha:OkA w c a)(ta:zAf a)(hk:kindB a.k=false):Calls Tryz.prog 47 #[.agg c.row] w (jA (.int .i64 1) w):=by
 exact kP0
theorem kUo (w:World)(c:OC)(a:OpP)(ha:OkA w c a)(ta:zAf a)(hk:kindB a.k=true)(he:eqO (fieldsO a) a=true):Calls Tryz.prog 47 #[.agg c.row] w (jA (.int .i64 0) w):=by
 exact kP0
theorem kUp (w:World)(c:OC)(a:OpP)(ha:OkA w c a)(ta:zAf a)(hk:kindB a.k=true)(he:eqO (fieldsO a) a=false):Calls Tryz.prog 47 #[.agg c.row] w (jA (.int .i64 1) w):=by
 exact kP0
theorem kOr {E:Int}(ha:OkA w c a)(ta:zAf a)(hE:zCx a=E):Calls Tryz.prog 47 #[.agg c.row] w (jA (.int .i64 E) w):=by
 subst hE;rw[zL8];cases hk:kindB a.k
 ·exact kUn w c a ha ta hk
 ·cases he:eqO (fieldsO a) a
  ·exact kUp w c a ha ta hk he
  ·exact kUo w c a ha ta hk he
