import Derived.Test.YtmglnjmnabjjgaaGreatJBVar
set_option maxRecDepth 100000
set_option maxHeartbeats 8000000
namespace Go.Proofs.YtmglnjmnabjjgaaGreat
open Go.RowKit
theorem kLu {W:World}{c:OC}{a:OpP}{E:Bool}(h:OkA W c a)(hs:eqT a.n zeroT=E):Calls Tryz.prog 101 #[.agg #[.bool c.lf,.slice c.P c.np c.pc,.slice c.X c.nt c.tc,.slice c.K c.nk c.kc],.agg #[.bool false,.slice none 0 0,.slice none 0 0,.slice none 0 0]] W (jA (.bool E) W):=by
 obtain⟨d1,h1⟩:=h.hn;subst hs;exact zQ1 d1 1 W _ _ _ _ h1 (zEh _ _)
theorem zP4 {n:Nat}(h:0<n):decide ((0:Int)<(n:Int))=true:=decide_eq_true Kb
theorem zEk {n:Nat}(h:n=0):decide ((0:Int)<(n:Int))=false:=decide_eq_false Kb
theorem kN1 {P:Prop}(h:P:=by
 have hb0:=zQ w (.cells c.row 35);obtain⟨W0,hW⟩:∃W0,w.alloc (.cells c.row 35)=W0:=⟨_,rfl⟩;have e1:=jR.new w c;rw[hW]at hb0 e1;have aP:=hd (fun W(h:Below W0.heap.size W0 W)=>e1.keep h);have cH:=hd (fun W(h:Below W0.heap.size W0 W)=>(ha.later hb0).later h);have HW:=hd hW;have fV:=hd hb0;have ac:=hd (Below.refl W0.heap.size W0);have aw:=hd ta;have qu:=(aP.o _ ac.o).cq;try
  have gy:=(aP.o _ ac.o).ct
  have eo:decide ((0:Int)<(c.no:Int))=false:=zEk ho
  have fo:decide (0<c.no)=false:=decide_eq_false Kb
  have go:¬0<c.no:=Kb
  have ic:=(aP.o _ ac.o).co
  have ew:decide ((0:Int)<(c.nw:Int))=false:=zEk hw
  have fw:decide (0<c.nw)=false:=decide_eq_false Kb
  have gw:¬0<c.nw:=Kb
  have jx:=(aP.o _ ac.o).cw
  have ex:decide ((0:Int)<(c.nx:Int))=true:=zP4 hx
  have fx:decide (0<c.nx)=true:=decide_eq_true hx
  have lu:=(aP.o _ ac.o).cx
 try
  have gy:=(aP.o _ ac.o).ct
  have eo:decide ((0:Int)<(c.no:Int))=false:=zEk ho
  have fo:decide (0<c.no)=false:=decide_eq_false Kb
  have go:¬0<c.no:=Kb
  have ic:=(aP.o _ ac.o).co
  have ew:decide ((0:Int)<(c.nw:Int))=true:=zP4 hw
  have fw:decide (0<c.nw)=true:=decide_eq_true hw
  have jx:=(aP.o _ ac.o).cw
 try
  have gy:=(aP.o _ ac.o).ct
  have eo:decide ((0:Int)<(c.no:Int))=true:=zP4 ho
  have fo:decide (0<c.no)=true:=decide_eq_true ho
  have ic:=(aP.o _ ac.o).co
 try
  have gy:=(aP.o _ ac.o).ct
 try
  have gy:=(aP.o _ ac.o).ct
  have eo:decide ((0:Int)<(c.no:Int))=false:=zEk ho
  have fo:decide (0<c.no)=false:=decide_eq_false Kb
  have go:¬0<c.no:=Kb
  have ic:=(aP.o _ ac.o).co
  have ew:decide ((0:Int)<(c.nw:Int))=false:=zEk hw
  have fw:decide (0<c.nw)=false:=decide_eq_false Kb
  have gw:¬0<c.nw:=Kb
  have jx:=(aP.o _ ac.o).cw
  have ex:decide ((0:Int)<(c.nx:Int))=false:=zEk hx
  have fx:decide (0<c.nx)=false:=decide_eq_false Kb
  have gx:¬0<c.nx:=Kb
  have lu:=(aP.o _ ac.o).cx
 try have HF:=hd hf
 try
  obtain⟨qw,qx,qy,qz,q8⟩:=(aP.o _ ac.o).cf
 try have HG:=hd hg
 try have HN:=hd hn
 try clear hq
 try clear ht
 try clear ho
 try clear hw
 try clear hx
 try clear hf
 try clear hg
 try clear hn
 clear hW hb0 e1 ha ta;go_enter Tryz.func98,Tryz.ntmps98
 go_upto_region 1 with fail
 rw[HW.o];go_wp2_with(first
  |(go_at_call 64;have _g:=HF;refine Calls.mono (zKp (cH.o _ ac.o).hf (zIi.zero _) (by have:=aw.o.hfa;have:=(cH.o _ ac.o).hf.hn;omega) (by have:=aw.o.hff;have:=(cH.o _ ac.o).hf.hm;omega) (Nat.zero_le _) (Nat.zero_le _) HF.o) ?_;clear HF;rintro e w9 ⟨rfl,b9⟩;have ac:=hd (zI ac.o b9);clear b9 qu gy ic jx lu qw qx qy qz q8;obtain⟨q9,qA,qB,qC,qD⟩:=(aP.o _ ac.o).cg;have qE:=(aP.o _ ac.o).cz)
  |(go_at_call 64;have _g:=HG;refine Calls.mono (zKp (cH.o _ ac.o).hg (zIi.zero _) (by have:=aw.o.hga;have:=(cH.o _ ac.o).hg.hn;omega) (by have:=aw.o.hgf;have:=(cH.o _ ac.o).hg.hm;omega) (Nat.zero_le _) (Nat.zero_le _) HG.o) ?_;clear HG;rintro e w9 ⟨rfl,b9⟩;have ac:=hd (zI ac.o b9);clear b9 q9 qA qB qC qD qE;have qE:=(aP.o _ ac.o).cz;obtain⟨qF,qG,qH,qI⟩:=(aP.o _ ac.o).cn)
  |(go_at_call 101;have _g:=HN;refine Calls.mono (kLu (cH.o _ ac.o) HN.o) ?_;clear HN;rintro e w9 ⟨rfl,b9⟩;have ac:=hd (zI ac.o b9);clear b9 qF qG qH qI qE)
  |fail)
 go_ret
 exact⟨rfl,fV.o.trans (ac.o.mono fV.o.size)⟩):P:=h
theorem kBs (w:World)(c:OC)(a:OpP)(ha:OkA w c a)(ta:zAf a)  (hq:0<c.lq):Calls Tryz.prog 98 #[.agg c.row] w (jA (.bool false) w):=by
 have eq:decide ((0:Int)<(c.lq:Int))=true:=zP4 hq;have fq:decide (0<c.lq)=true:=decide_eq_true hq;exact kN1
theorem kBt (w:World)(c:OC)(a:OpP)(ha:OkA w c a)(ta:zAf a)(hq:c.lq=0)(ht:0<c.lt):Calls Tryz.prog 98 #[.agg c.row] w (jA (.bool false) w):=by
 have eq:decide ((0:Int)<(c.lq:Int))=false:=zEk hq;have fq:decide (0<c.lq)=false:=decide_eq_false Kb;have gq:¬0<c.lq:=Kb;have et:decide ((0:Int)<(c.lt:Int))=true:=zP4 ht;have ft:decide (0<c.lt)=true:=decide_eq_true ht;exact kN1
theorem kBu (w:World)(c:OC)(a:OpP)(ha:OkA w c a)(ta:zAf a)(hq:c.lq=0)(ht:c.lt=0)(ho:0<c.no):Calls Tryz.prog 98 #[.agg c.row] w (jA (.bool false) w):=by
 have eq:decide ((0:Int)<(c.lq:Int))=false:=zEk hq;have fq:decide (0<c.lq)=false:=decide_eq_false Kb;have gq:¬0<c.lq:=Kb;have et:decide ((0:Int)<(c.lt:Int))=false:=zEk ht;have ft:decide (0<c.lt)=false:=decide_eq_false Kb;have gt:¬0<c.lt:=Kb;exact kN1
theorem kBv (w:World)(c:OC)(a:OpP)(ha:OkA w c a)(ta:zAf a)(hq:c.lq=0)(ht:c.lt=0)(ho:c.no=0)(hw:0<c.nw):Calls Tryz.prog 98 #[.agg c.row] w (jA (.bool false) w):=by
 have eq:decide ((0:Int)<(c.lq:Int))=false:=zEk hq;have fq:decide (0<c.lq)=false:=decide_eq_false Kb;have gq:¬0<c.lq:=Kb;have et:decide ((0:Int)<(c.lt:Int))=false:=zEk ht;have ft:decide (0<c.lt)=false:=decide_eq_false Kb;have gt:¬0<c.lt:=Kb;exact kN1
theorem kBw (w:World)(c:OC)(a:OpP)(ha:OkA w c a)(ta:zAf a)(hq:c.lq=0)(ht:c.lt=0)(ho:c.no=0)(hw:c.nw=0)(hx:0<c.nx):Calls Tryz.prog 98 #[.agg c.row] w (jA (.bool false) w):=by
 have eq:decide ((0:Int)<(c.lq:Int))=false:=zEk hq;have fq:decide (0<c.lq)=false:=decide_eq_false Kb;have gq:¬0<c.lq:=Kb;have et:decide ((0:Int)<(c.lt:Int))=false:=zEk ht;have ft:decide (0<c.lt)=false:=decide_eq_false Kb;have gt:¬0<c.lt:=Kb;exact kN1
theorem kBx (w:World)(c:OC)(a:OpP)(ha:OkA w c a)(ta:zAf a)(hq:c.lq=0)(ht:c.lt=0)(ho:c.no=0)(hw:c.nw=0)(hx:c.nx=0)(hf:zF7 a.f zeroS=false):Calls Tryz.prog 98 #[.agg c.row] w (jA (.bool false) w):=by
 have eq:decide ((0:Int)<(c.lq:Int))=false:=zEk hq;have fq:decide (0<c.lq)=false:=decide_eq_false Kb;have gq:¬0<c.lq:=Kb;have et:decide ((0:Int)<(c.lt:Int))=false:=zEk ht;have ft:decide (0<c.lt)=false:=decide_eq_false Kb;have gt:¬0<c.lt:=Kb;exact kN1
theorem kBy (w:World)(c:OC)(a:OpP)(ha:OkA w c a)(ta:zAf a)(hq:c.lq=0)(ht:c.lt=0)(ho:c.no=0)(hw:c.nw=0)(hx:c.nx=0)(hf:zF7 a.f zeroS=true)(hg:zF7 a.g zeroS=false):Calls Tryz.prog 98 #[.agg c.row] w (jA (.bool false) w):=by
 have eq:decide ((0:Int)<(c.lq:Int))=false:=zEk hq;have fq:decide (0<c.lq)=false:=decide_eq_false Kb;have gq:¬0<c.lq:=Kb;have et:decide ((0:Int)<(c.lt:Int))=false:=zEk ht;have ft:decide (0<c.lt)=false:=decide_eq_false Kb;have gt:¬0<c.lt:=Kb;exact kN1
theorem kBz (w:World)(c:OC)(a:OpP)(ha:OkA w c a)(ta:zAf a)(hq:c.lq=0)(ht:c.lt=0)(ho:c.no=0)(hw:c.nw=0)(hx:c.nx=0)(hf:zF7 a.f zeroS=true)(hg:zF7 a.g zeroS=true)(hz:(c.z==0)=false):Calls Tryz.prog 98 #[.agg c.row] w (jA (.bool false) w):=by
 have eq:decide ((0:Int)<(c.lq:Int))=false:=zEk hq;have fq:decide (0<c.lq)=false:=decide_eq_false Kb;have gq:¬0<c.lq:=Kb;have et:decide ((0:Int)<(c.lt:Int))=false:=zEk ht;have ft:decide (0<c.lt)=false:=decide_eq_false Kb;have gt:¬0<c.lt:=Kb;exact kN1
theorem kB0 (w:World)(c:OC)(a:OpP)(ha:OkA w c a)(ta:zAf a)(hq:c.lq=0)(ht:c.lt=0)(ho:c.no=0)(hw:c.nw=0)(hx:c.nx=0)(hf:zF7 a.f zeroS=true)(hg:zF7 a.g zeroS=true)(hz:(c.z==0)=true)(E:Bool)(hn:eqT a.n zeroT=E):Calls Tryz.prog 98 #[.agg c.row] w (jA (.bool E) w):=by
 have eq:decide ((0:Int)<(c.lq:Int))=false:=zEk hq;have fq:decide (0<c.lq)=false:=decide_eq_false Kb;have gq:¬0<c.lq:=Kb;have et:decide ((0:Int)<(c.lt:Int))=false:=zEk ht;have ft:decide (0<c.lt)=false:=decide_eq_false Kb;have gt:¬0<c.lt:=Kb;exact kN1
theorem zVi (a:OpP):bareB a=(decide (a.q.length=0)&&decide (a.t.length=0)&&decide (a.o.length=0)&&decide (a.w.length=0)&&decide (a.x.length=0)&&zF7 a.f zeroS&&zF7 a.g zeroS&&(a.z==0)&&eqT a.n zeroT):=by
 unfold bareB;have h:=zYw a {zeroO with k:=a.k};change eqO _ _=(a.k==a.k&&zEd a.q []&&zEd a.t []&&(a.z==0)&&eqT a.n zeroT&&decide (a.o=[])&&decide (a.w=[])&&sameL a.x []&&zF7 a.f zeroS&&zF7 a.g zeroS)at h
 rw[h,Bool.eq_iff_iff];simp only[Bool.and_eq_true,beq_iff_eq,zIw,zC4,zEd,sameL,decide_eq_true_iff,List.length_eq_zero_iff];constructor<;>(intro h;simp[h])
theorem kB1 {w:World}{c:OC}{a:OpP}{E:Bool}(ha:OkA w c a)(ta:zAf a)(hE:bareB a=E):Calls Tryz.prog 98 #[.agg c.row] w (jA (.bool E) w):=by
 subst hE;rw[zVi,ha.hlq,ha.hlt,ha.hno,ha.hnw,ha.hnx,ha.hz];rcases Nat.eq_zero_or_pos c.lq with hq|hq
 case inr=>
  have h:=kBs w c a ha ta  hq;simpa[Nat.ne_of_gt hq]using h
 rcases Nat.eq_zero_or_pos c.lt with ht|ht
 case inr=>
  have h:=kBt w c a ha ta hq ht;simpa[hq,Nat.ne_of_gt ht]using h
 rcases Nat.eq_zero_or_pos c.no with ho|ho
 case inr=>
  have h:=kBu w c a ha ta hq ht ho;simpa[hq,ht,Nat.ne_of_gt ho]using h
 rcases Nat.eq_zero_or_pos c.nw with hw|hw
 case inr=>
  have h:=kBv w c a ha ta hq ht ho hw;simpa[hq,ht,ho,Nat.ne_of_gt hw]using h
 rcases Nat.eq_zero_or_pos c.nx with hx|hx
 case inr=>
  have h:=kBw w c a ha ta hq ht ho hw hx;simpa[hq,ht,ho,hw,Nat.ne_of_gt hx]using h
 cases hf:zF7 a.f zeroS
 case false=>
  have h:=kBx w c a ha ta hq ht ho hw hx hf;simpa only[hq,ht,ho,hw,hx,hf,decide_true,Bool.true_and,Bool.and_true,Bool.false_and,Bool.and_false]using h
 cases hg:zF7 a.g zeroS
 case false=>
  have h:=kBy w c a ha ta hq ht ho hw hx hf hg;simpa only[hq,ht,ho,hw,hx,hf,hg,decide_true,Bool.true_and,Bool.and_true,Bool.false_and,Bool.and_false]using h
 cases hz:(c.z==0)
 case false=>
  have h:=kBz w c a ha ta hq ht ho hw hx hf hg hz;simpa only[hq,ht,ho,hw,hx,hf,hg,hz,decide_true,Bool.true_and,Bool.and_true,Bool.false_and,Bool.and_false]using h
 have h:=kB0 w c a ha ta hq ht ho hw hx hf hg hz _ rfl;simpa only[hq,ht,ho,hw,hx,hf,hg,hz,decide_true,Bool.true_and]using h
