import Derived.Test.YtmglnjmnabjjgaaGreatBInv
set_option maxRecDepth 100000
set_option maxHeartbeats 8000000
namespace Go.Proofs.YtmglnjmnabjjgaaGreat
open Go.RowKit
variable {a:OpP}{h k n:NT}{i j m:Nat}{W:World}{c:OC}{E:Bool}{K aff pos:Int}{q t u x:List Int}{p:List Int×Int}
def fewS (s:Sl):Bool:=decide (s.a.1.length<=60)&&decide (s.f.1.length<=60)
def zT3 (a:OpP):Bool:=decide (a.q.length<=60)&&decide (a.t.length<=60)&&decide (a.x.length<=100)&&decide (a.o.length<=40)&&decide (a.w.length<=40)&&zI5 100 a.n&&fewS a.f&&fewS a.g&&zI5 100 (.mk false a.o [] [])&&zI5 100 (.mk false a.w [] [])
theorem zXu (h:zT3 a=true):zAf a:=by
 simp only[zT3,fewS,Bool.and_eq_true,decide_eq_true_iff]at h;obtain⟨⟨⟨⟨⟨⟨⟨⟨⟨h1,h2⟩,h3⟩,h4⟩,h5⟩,h6⟩,h7,h8⟩,h9,h10⟩,h11⟩,h12⟩:=h;exact⟨h1,h2,h3,h4,h5,h7,h8,h9,h10⟩
theorem zAg {n:Nat}(h:n<=m):decide ((n:Int)<=(m:Int))=true:=decide_eq_true Kb
theorem zSf {n:Nat}(h:¬n<=m):decide ((n:Int)<=(m:Int))=false:=decide_eq_false Kb
theorem zKa (w:World)(si:Bool)(A B:Option Addr)(n c m d:Nat)(x y:Int)(s:Sl)(h:zIi w si A n c x B m d y s):
  Calls Tryz.prog 26 #[.agg #[.bool si,.slice A n c,.int .i64 x,.slice B m d,.int .i64 y]] w (jA (.bool (fewS s)) w):=by
 obtain⟨_,_,_,hn,hm,_,_,m1,m2,_,_⟩:=h;unfold fewS;rw[hn,hm];clear hn hm;by_cases h1:n<=60
 ·by_cases h2:m<=60
  ·have e1:decide ((n:Int)<=60)=true:=zAg h1;have e2:decide ((m:Int)<=60)=true:=zAg h2;rw[decide_eq_true h1,decide_eq_true h2];clear h1 h2;go_enter Tryz.func26,Tryz.ntmps26
   go_wp2
   go_ret
   exact⟨rfl,zQ _ _⟩
  ·have e1:decide ((n:Int)<=60)=true:=zAg h1;have e2:decide ((m:Int)<=60)=false:=zSf h2;rw[decide_eq_true h1,decide_eq_false h2];clear h1 h2;go_enter Tryz.func26,Tryz.ntmps26
   go_wp2
   go_ret
   exact⟨rfl,zQ _ _⟩
 ·have e1:decide ((n:Int)<=60)=false:=zSf h1;rw[decide_eq_false h1];clear h1;go_enter Tryz.func26,Tryz.ntmps26
  go_wp2
  go_ret
  exact⟨rfl,zQ _ _⟩
theorem zXv (h:OkA W c a)(hs:zI5 100 a.n=E):Calls Tryz.prog 7 #[.agg #[.bool c.lf,.slice c.P c.np c.pc,.slice c.X c.nt c.tc,.slice c.K c.nk c.kc],.int .i64 100] W (jA (.bool E) W):=by
 obtain⟨d,h1⟩:=h.hn;subst hs;exact zO3 d W _ _ 100 (by unfold zFf;omega) h1
theorem kJb (h:OkA W c a)(hs:zI5 100 (.mk false a.o [] [])=E):Calls Tryz.prog 7 #[.agg #[.bool false,.slice c.O c.no c.co,.slice none 0 0,.slice none 0 0],.int .i64 100] W (jA (.bool E) W):=by
 subst hs;exact zO3 1 W _ _ 100 (by unfold zFf;omega) (zV.shut h.hno.symm rfl rfl h.ho (VL.nil _ _ _) ⟨h.hwo,by rw[h.hno];exact h.hmo,by simp,by simp,by rw[h.hno];exact h.hco,by simp,by simp⟩ (fun k m h=>by simp at h))
theorem kLv (h:OkA W c a)(hs:zI5 100 (.mk false a.w [] [])=E):Calls Tryz.prog 7 #[.agg #[.bool false,.slice c.W c.nw c.cw,.slice none 0 0,.slice none 0 0],.int .i64 100] W (jA (.bool E) W):=by
 subst hs;exact zO3 1 W _ _ 100 (by unfold zFf;omega) (zV.shut h.hnw.symm rfl rfl h.hw (VL.nil _ _ _) ⟨h.hww,by rw[h.hnw];exact h.hmw,by simp,by simp,by rw[h.hnw];exact h.hcw,by simp,by simp⟩ (fun k m h=>by simp at h))
theorem kB3 (h:OkA W c a)(hs:fewS a.f=E):Calls Tryz.prog 26 #[.agg #[.bool c.fi,.slice c.F1 c.f1 c.d1,.int .i64 c.fo,.slice c.F2 c.f2 c.d2,.int .i64 c.fp]] W (jA (.bool E) W):=by
 subst hs;exact zKa W _ _ _ _ _ _ _ _ _ _ h.hf
theorem kF6 (h:OkA W c a)(hs:fewS a.g=E):Calls Tryz.prog 26 #[.agg #[.bool c.gi,.slice c.G1 c.g1 c.e1,.int .i64 c.go,.slice c.G2 c.g2 c.e2,.int .i64 c.gp]] W (jA (.bool E) W):=by
 subst hs;exact zKa W _ _ _ _ _ _ _ _ _ _ h.hg
theorem kN2 {P:Prop}(h:P:=by
 have hb0:=zQ w (.cells c.row 35);obtain⟨W0,hW⟩:∃W0,w.alloc (.cells c.row 35)=W0:=⟨_,rfl⟩;have e1:=jR.new w c;rw[hW]at hb0 e1;have aP:=hd (fun W(h:Below W0.heap.size W0 W)=>e1.keep h);have cH:=hd (fun W(h:Below W0.heap.size W0 W)=>(ha.later hb0).later h);have HW:=hd hW;have fV:=hd hb0;have ac:=hd (Below.refl W0.heap.size W0);have m1:=ha.hmq;have m2:=ha.hmt;have m3:=ha.hmx;have m4:=ha.hmo;have m5:=ha.hmw;have qu:=(aP.o _ ac.o).cq;try
  have gy:=(aP.o _ ac.o).ct
  have ex:decide ((c.nx:Int)<=100)=true:=zAg (of_decide_eq_true hx)
  have lu:=(aP.o _ ac.o).cx
  have eo:decide ((c.no:Int)<=40)=true:=zAg (of_decide_eq_true ho)
  have ic:=(aP.o _ ac.o).co
  have ew:decide ((c.nw:Int)<=40)=false:=zSf (of_decide_eq_false hw)
  have jx:=(aP.o _ ac.o).cw
 try
  have gy:=(aP.o _ ac.o).ct
  have ex:decide ((c.nx:Int)<=100)=true:=zAg (of_decide_eq_true hx)
  have lu:=(aP.o _ ac.o).cx
  have eo:decide ((c.no:Int)<=40)=false:=zSf (of_decide_eq_false ho)
  have ic:=(aP.o _ ac.o).co
 try
  have gy:=(aP.o _ ac.o).ct
  have ex:decide ((c.nx:Int)<=100)=false:=zSf (of_decide_eq_false hx)
  have lu:=(aP.o _ ac.o).cx
 try
  have gy:=(aP.o _ ac.o).ct
 try
  have gy:=(aP.o _ ac.o).ct
  have ex:decide ((c.nx:Int)<=100)=true:=zAg (of_decide_eq_true hx)
  have lu:=(aP.o _ ac.o).cx
  have eo:decide ((c.no:Int)<=40)=true:=zAg (of_decide_eq_true ho)
  have ic:=(aP.o _ ac.o).co
  have ew:decide ((c.nw:Int)<=40)=true:=zAg (of_decide_eq_true hw)
  have jx:=(aP.o _ ac.o).cw
 try have Hn:=hd hn
 try have Hf:=hd hf
 try have Hg:=hd hg
 try have qP:=hd ay
 try have qQ:=hd hw2
 try
  obtain⟨qF,qG,qH,qI⟩:=(aP.o _ ac.o).cn
 clear hq;try clear ht
 try clear hx
 try clear ho
 try clear hw
 try clear hn
 try clear hf
 try clear hg
 try clear ay
 try clear hw2
 clear hW hb0 e1 ha;go_enter Tryz.func8,Tryz.ntmps8
 go_upto_region 1 with fail
 rw[HW.o];go_wp2_with(first
  |(go_at_call 7;have _g:=Hn;refine Calls.mono (zXv (cH.o _ ac.o) Hn.o) ?_;clear Hn;rintro e w9 ⟨rfl,b9⟩;have ac:=hd (zI ac.o b9);clear b9 qu gy lu ic jx qF qG qH qI;obtain⟨qw,qx,qy,qz,q8⟩:=(aP.o _ ac.o).cf)
  |(go_at_call 7;have _g:=qP;refine Calls.mono (kJb (cH.o _ ac.o) qP.o) ?_;clear qP;rintro e w9 ⟨rfl,b9⟩;have ac:=hd (zI ac.o b9);clear b9 ic;have jx:=(aP.o _ ac.o).cw)
  |(go_at_call 7;have _g:=qQ;refine Calls.mono (kLv (cH.o _ ac.o) qQ.o) ?_;clear qQ;rintro e w9 ⟨rfl,b9⟩;have ac:=hd (zI ac.o b9);clear b9 jx)
  |(go_at_call 26;have _g:=Hf;refine Calls.mono (kB3 (cH.o _ ac.o) Hf.o) ?_;clear Hf;rintro e w9 ⟨rfl,b9⟩;have ac:=hd (zI ac.o b9);clear b9 qw qx qy qz q8;obtain⟨q9,qA,qB,qC,qD⟩:=(aP.o _ ac.o).cg)
  |(go_at_call 26;have _g:=Hg;refine Calls.mono (kF6 (cH.o _ ac.o) Hg.o) ?_;clear Hg;rintro e w9 ⟨rfl,b9⟩;have ac:=hd (zI ac.o b9);clear b9 q9 qA qB qC qD;have ic:=(aP.o _ ac.o).co)
  |fail)
 go_ret
 exact⟨rfl,fV.o.trans (ac.o.mono fV.o.size)⟩):P:=h
theorem kJc (w:World)(c:OC)(a:OpP)(ha:OkA w c a)  (hq:decide (c.lq<=60)=false):Calls Tryz.prog 8 #[.agg c.row] w (jA (.bool false) w):=by
 have eq:decide ((c.lq:Int)<=60)=false:=zSf (of_decide_eq_false hq);exact kN2
theorem kJd (w:World)(c:OC)(a:OpP)(ha:OkA w c a)(hq:decide (c.lq<=60)=true)(ht:decide (c.lt<=60)=false):Calls Tryz.prog 8 #[.agg c.row] w (jA (.bool false) w):=by
 have eq:decide ((c.lq:Int)<=60)=true:=zAg (of_decide_eq_true hq);have et:decide ((c.lt:Int)<=60)=false:=zSf (of_decide_eq_false ht);exact kN2
theorem kJe (w:World)(c:OC)(a:OpP)(ha:OkA w c a)(hq:decide (c.lq<=60)=true)(ht:decide (c.lt<=60)=true)(hx:decide (c.nx<=100)=false):Calls Tryz.prog 8 #[.agg c.row] w (jA (.bool false) w):=by
 have eq:decide ((c.lq:Int)<=60)=true:=zAg (of_decide_eq_true hq);have et:decide ((c.lt:Int)<=60)=true:=zAg (of_decide_eq_true ht);exact kN2
theorem kJf (w:World)(c:OC)(a:OpP)(ha:OkA w c a)(hq:decide (c.lq<=60)=true)(ht:decide (c.lt<=60)=true)(hx:decide (c.nx<=100)=true)(ho:decide (c.no<=40)=false):Calls Tryz.prog 8 #[.agg c.row] w (jA (.bool false) w):=by
 have eq:decide ((c.lq:Int)<=60)=true:=zAg (of_decide_eq_true hq);have et:decide ((c.lt:Int)<=60)=true:=zAg (of_decide_eq_true ht);exact kN2
theorem kJg (w:World)(c:OC)(a:OpP)(ha:OkA w c a)(hq:decide (c.lq<=60)=true)(ht:decide (c.lt<=60)=true)(hx:decide (c.nx<=100)=true)(ho:decide (c.no<=40)=true)(hw:decide (c.nw<=40)=false):Calls Tryz.prog 8 #[.agg c.row] w (jA (.bool false) w):=by
 have eq:decide ((c.lq:Int)<=60)=true:=zAg (of_decide_eq_true hq);have et:decide ((c.lt:Int)<=60)=true:=zAg (of_decide_eq_true ht);exact kN2
theorem kJh (w:World)(c:OC)(a:OpP)(ha:OkA w c a)(hq:decide (c.lq<=60)=true)(ht:decide (c.lt<=60)=true)(hx:decide (c.nx<=100)=true)(ho:decide (c.no<=40)=true)(hw:decide (c.nw<=40)=true)(hn:zI5 100 a.n=false):Calls Tryz.prog 8 #[.agg c.row] w (jA (.bool false) w):=by
 have eq:decide ((c.lq:Int)<=60)=true:=zAg (of_decide_eq_true hq);have et:decide ((c.lt:Int)<=60)=true:=zAg (of_decide_eq_true ht);exact kN2
theorem kJi (w:World)(c:OC)(a:OpP)(ha:OkA w c a)(hq:decide (c.lq<=60)=true)(ht:decide (c.lt<=60)=true)(hx:decide (c.nx<=100)=true)(ho:decide (c.no<=40)=true)(hw:decide (c.nw<=40)=true)(hn:zI5 100 a.n=true)(hf:fewS a.f=false):Calls Tryz.prog 8 #[.agg c.row] w (jA (.bool false) w):=by
 have eq:decide ((c.lq:Int)<=60)=true:=zAg (of_decide_eq_true hq);have et:decide ((c.lt:Int)<=60)=true:=zAg (of_decide_eq_true ht);exact kN2
theorem kJj (w:World)(c:OC)(a:OpP)(ha:OkA w c a)(hq:decide (c.lq<=60)=true)(ht:decide (c.lt<=60)=true)(hx:decide (c.nx<=100)=true)(ho:decide (c.no<=40)=true)(hw:decide (c.nw<=40)=true)(hn:zI5 100 a.n=true)(hf:fewS a.f=true)(hg:fewS a.g=false):Calls Tryz.prog 8 #[.agg c.row] w (jA (.bool false) w):=by
 have eq:decide ((c.lq:Int)<=60)=true:=zAg (of_decide_eq_true hq);have et:decide ((c.lt:Int)<=60)=true:=zAg (of_decide_eq_true ht);exact kN2
theorem kJk (w:World)(c:OC)(a:OpP)(ha:OkA w c a)(hq:decide (c.lq<=60)=true)(ht:decide (c.lt<=60)=true)(hx:decide (c.nx<=100)=true)(ho:decide (c.no<=40)=true)(hw:decide (c.nw<=40)=true)(hn:zI5 100 a.n=true)(hf:fewS a.f=true)(hg:fewS a.g=true)(ay:zI5 100 (.mk false a.o [] [])=false):Calls Tryz.prog 8 #[.agg c.row] w (jA (.bool false) w):=by
 have eq:decide ((c.lq:Int)<=60)=true:=zAg (of_decide_eq_true hq);have et:decide ((c.lt:Int)<=60)=true:=zAg (of_decide_eq_true ht);exact kN2
theorem kJl (w:World)(c:OC)(a:OpP)(ha:OkA w c a)(hq:decide (c.lq<=60)=true)(ht:decide (c.lt<=60)=true)(hx:decide (c.nx<=100)=true)(ho:decide (c.no<=40)=true)(hw:decide (c.nw<=40)=true)(hn:zI5 100 a.n=true)(hf:fewS a.f=true)(hg:fewS a.g=true)(ay:zI5 100 (.mk false a.o [] [])=true)(hw2:zI5 100 (.mk false a.w [] [])=false):Calls Tryz.prog 8 #[.agg c.row] w (jA (.bool false) w):=by
 have eq:decide ((c.lq:Int)<=60)=true:=zAg (of_decide_eq_true hq);have et:decide ((c.lt:Int)<=60)=true:=zAg (of_decide_eq_true ht);exact kN2
theorem kF7 (w:World)(c:OC)(a:OpP)(ha:OkA w c a)(hq:decide (c.lq<=60)=true)(ht:decide (c.lt<=60)=true)(hx:decide (c.nx<=100)=true)(ho:decide (c.no<=40)=true)(hw:decide (c.nw<=40)=true)(hn:zI5 100 a.n=true)(hf:fewS a.f=true)(hg:fewS a.g=true)(ay:zI5 100 (.mk false a.o [] [])=true)(hw2:zI5 100 (.mk false a.w [] [])=true):Calls Tryz.prog 8 #[.agg c.row] w (jA (.bool true) w):=by
 have eq:decide ((c.lq:Int)<=60)=true:=zAg (of_decide_eq_true hq);have et:decide ((c.lt:Int)<=60)=true:=zAg (of_decide_eq_true ht);exact kN2
theorem kJm {w:World}(ha:OkA w c a)(hE:zT3 a=E):Calls Tryz.prog 8 #[.agg c.row] w (jA (.bool E) w):=by
 subst hE;unfold zT3;rw[ha.hlq,ha.hlt,ha.hnx,ha.hno,ha.hnw];cases hq:decide (c.lq<=60)
 ·have h:=kJc w c a ha hq;simpa only[Bool.true_and,Bool.and_true,Bool.false_and,Bool.and_false,hq]using h
 cases ht:decide (c.lt<=60)
 ·have h:=kJd w c a ha hq ht;simpa only[Bool.true_and,Bool.and_true,Bool.false_and,Bool.and_false,hq,ht]using h
 cases hx:decide (c.nx<=100)
 ·have h:=kJe w c a ha hq ht hx;simpa only[Bool.true_and,Bool.and_true,Bool.false_and,Bool.and_false,hq,ht,hx]using h
 cases ho:decide (c.no<=40)
 ·have h:=kJf w c a ha hq ht hx ho;simpa only[Bool.true_and,Bool.and_true,Bool.false_and,Bool.and_false,hq,ht,hx,ho]using h
 cases hw:decide (c.nw<=40)
 ·have h:=kJg w c a ha hq ht hx ho hw;simpa only[Bool.true_and,Bool.and_true,Bool.false_and,Bool.and_false,hq,ht,hx,ho,hw]using h
 cases hn:zI5 100 a.n
 ·have h:=kJh w c a ha hq ht hx ho hw hn;simpa only[Bool.true_and,Bool.and_true,Bool.false_and,Bool.and_false,hq,ht,hx,ho,hw,hn]using h
 cases hf:fewS a.f
 ·have h:=kJi w c a ha hq ht hx ho hw hn hf;simpa only[Bool.true_and,Bool.and_true,Bool.false_and,Bool.and_false,hq,ht,hx,ho,hw,hn,hf]using h
 cases hg:fewS a.g
 ·have h:=kJj w c a ha hq ht hx ho hw hn hf hg;simpa only[Bool.true_and,Bool.and_true,Bool.false_and,Bool.and_false,hq,ht,hx,ho,hw,hn,hf,hg]using h
 cases ay:zI5 100 (.mk false a.o [] [])
 ·have h:=kJk w c a ha hq ht hx ho hw hn hf hg ay;simpa only[Bool.true_and,Bool.and_true,Bool.false_and,Bool.and_false,hq,ht,hx,ho,hw,hn,hf,hg,ay]using h
 cases hw2:zI5 100 (.mk false a.w [] [])
 ·have h:=kJl w c a ha hq ht hx ho hw hn hf hg ay hw2;simpa only[Bool.true_and,Bool.and_true,Bool.false_and,Bool.and_false,hq,ht,hx,ho,hw,hn,hf,hg,ay,hw2]using h
 have h:=kF7 w c a ha hq ht hx ho hw hn hf hg ay hw2;simpa only[Bool.true_and,Bool.and_true]using h
theorem zXw (t:zAf a):zAf (zAp a).1:=by
 have h1:(jV a.q).1.length<=60:=by
  have:=t.hq;unfold jV;split
  ·simp
  ·split
   ·simp
   ·obtain⟨k,hk⟩:∃k,a.q.length=k+1:=⟨a.q.length-1,by omega⟩;simp only[zQk a.q k hk,List.length_set];omega
 have h2:(zBg a.q).1.length<=60:=by
  have:=t.hq;unfold zBg;split
  ·simp
  ·split
   ·simp
   ·obtain⟨k,hk⟩:∃k,a.q.length=k+1:=⟨a.q.length-1,by omega⟩;simp only[zQk a.q k hk,List.length_set];omega
 have z:=zAf.zero;obtain⟨t1,t2,t3,t4,t5,t6,t7,t8,t9⟩:=t;unfold zAp;split
 ·split
  ·exact⟨h1,t2,t3,t5,t4,t6,t7,t8,t9⟩
  ·exact z
 ·split
  ·split
   ·exact⟨h2,t2,t3,t5,t4,t6,t7,t8,t9⟩
   ·exact z
  ·split
   ·exact⟨t1,t2,t3,t5,t4,t6,t7,t8,t9⟩
   ·split
    ·exact⟨t2,t1,t3,t4,t5,t6,t7,t8,t9⟩
    ·split
     ·exact⟨t1,t2,t3,t4,t5,t8,t9,t6,t7⟩
     ·exact⟨t1,t2,t3,t4,t5,t6,t7,t8,t9⟩
theorem zT5 (t:zAf a):zAf (zGl a).1:=by
 unfold zGl;split
 ·exact zXw t
 ·exact zAf.zero
def zEl (off pos aff:Int):Bool:=decide (pos<off)||(decide (pos=off)&&decide (aff=1))
def noP :(List Int×Int)×Bool:=(([],0),false)
def zXx (K:Int)(q:List Int)(pos n aff:Int)(x:List Int)(off:Int):(List Int×Int)×Bool:=
 if K=7 then((x,if zEl off pos aff=true then off+n else off),true)
 else if K=8 then((x,if pos<off then max (off-n) pos else off),true)
 else if K=3/\q.length≠0 then((x,off+pos),true)
 else if K=4/\q.length≠0 then(if pos=off/\aff=0 then noP else if zEl off pos aff=true then((addL q (q.length-1) 1,off-pos),true)else((x,off),true))
 else((x,off),true)
def zDx (aff:Int):Prop:=aff=0∨aff=1∨aff=2
instance (aff :Int):Decidable (zDx aff):=by unfold zDx;infer_instance
def zEr (K:Int)(q t:List Int)(pos n aff:Int)(p:List Int×Int):(List Int×Int)×Bool:=
 if zDx aff/\0<=p.2/\p.2<=1048576/\(jF K q t pos p.1).2=true then
  (if q=p.1 then zXx K q pos n aff (jF K q t pos p.1).1 p.2 else(((jF K q t pos p.1).1,p.2),true))
 else noP
theorem zXy {n:Int}(h:¬zDx aff):zEr K q t pos n aff p=noP:=by
 unfold zEr;rw[if_neg (fun x=>h x.1)]
theorem zP9 {n:Int}(h:¬(0<=p.2/\p.2<=1048576)):zEr K q t pos n aff p=noP:=by
 unfold zEr;rw[if_neg (fun x=>h ⟨x.2.1,x.2.2.1⟩)]
theorem zVj {n:Int}(h:jF K q t pos p.1=(x,false)):zEr K q t pos n aff p=noP:=by
 unfold zEr;rw[if_neg (fun x=>by rw[h]at x;simp at x)]
theorem kB4 {n:Int}(h1:zDx aff)(h2:0<=p.2)(h3:p.2<=1048576)(h:jF K q t pos p.1=(x,true)):
  zEr K q t pos n aff p=if q=p.1 then zXx K q pos n aff x p.2 else((x,p.2),true):=by
 unfold zEr;rw[if_pos ⟨h1,h2,h3,by rw[h]⟩,h]
theorem zKc {n:Int}{y:List Int×Int}(h:zEr K q t pos n aff p=(y,true)):∃x,zDx aff/\0<=p.2/\p.2<=1048576/\jF K q t pos p.1=(x,true)/\(if q=p.1 then zXx K q pos n aff x p.2 else((x,p.2),true))=(y,true):=by
 unfold zEr at h;split at h
 ·rename_i hc
  obtain⟨h1,h2,h3,h4⟩:=hc;refine⟨(jF K q t pos p.1).1,h1,h2,h3,Prod.ext rfl h4,h⟩
 ·cases h
theorem kB5 {n off:Int}:(zXx K q pos n aff x off).1.1.length<=x.length+q.length:=by
 unfold zXx;repeat' split
 all_goals simp[noP,zJe]
theorem zXz {n:Int}:(zEr K q t pos n aff p).1.1.length<=p.1.length+t.length+q.length:=by
 have h1:=zQy (K:=K) (pos:=pos) (q:=q) (t:=t) (p:=p.1);unfold zEr;split
 ·split
  ·have h2:=kB5 (K:=K) (pos:=pos) (n:=n) (aff:=aff) (off:=p.2) (q:=q) (x:=(jF K q t pos p.1).1);omega
  ·simp only;omega
 ·simp[noP]
theorem zLo {p:List Int}(h:jF K q t pos p=(x,true)):jI p=true/\jI q=true/\jI t=true/\zE9 pos=true:=by
 unfold jF at h;split at h
 ·rename_i hc
  simp only[Bool.and_eq_true]at hc;exact⟨hc.1.1.1,hc.1.1.2,hc.1.2,hc.2⟩
 ·cases h
theorem kB6 :zX q q=2:=zCw.2 rfl
theorem zX0 (h:jF 4 q t pos q=(x,true)):x=q:=by
 have:=jD h Kd;unfold jH at this;rw[kB6]at this;split at this
 ·injection this with this _;exact this.symm
 ·simp at this;exact this.symm
def zG9 (n:NT):Int:=n.tx.length+n.ks.length
def zAo (b k:NT):NT:=.mk b.lf b.ps (b.tx++k.tx) (b.ks++k.ks)
def jN (k:NT)(i:Nat):NT:=if k.lf=true then .mk k.lf k.ps (k.tx.take i) k.ks else .mk k.lf k.ps k.tx (k.ks.take i)
def zA2 (k:NT)(i:Nat)(ps:List Pr):NT:=if k.lf=true then .mk k.lf ps (k.tx.drop i) []else .mk k.lf ps [] (k.ks.drop i)
def zEs (k:NT)(ps:List Pr):NT:=.mk k.lf ps k.tx k.ks
def zCz (k:NT)(tx:List Int):NT:=.mk k.lf k.ps tx k.ks
noncomputable def kB7 (n:NT)(o:OpP):NT×Int:=if zAd o.n≠0 then(zeroT,zAd o.n)else zGo n o.q o.n
noncomputable def zVk (n:NT)(o:OpP):NT×Int:=if(zBw n o.q).2≠0 then(zeroT,(zBw n o.q).2)else if eqT (zE3 n o.q) o.n=true then((zBw n o.q).1,0)else(zeroT,9)
def kLk (o:OpP)(rest:NT)(q:List Int)(b k:NT):NT×Int:=
 if b.lf≠k.lf then(zeroT,7)else if zG9 b≠o.z then(zeroT,8)else if k.ps≠o.o then(zeroT,9)else(putT rest q (zAo b k),0)
def kBo (n:NT)(o:OpP):NT×Int:=
 if(zBw n o.q).2≠0 then(zeroT,(zBw n o.q).2)else if(jV o.q).2≠0 then(zeroT,8)else
 kLk o (zBw n o.q).1 (jV o.q).1 (zGm (zBw n o.q).1 (jV o.q).1).1 (zE3 n o.q)
def kLl (n:NT)(o:OpP)(k:NT):NT×Int:=
 if o.z<0∨zG9 k<o.z then(zeroT,8)else zGo (putT n o.q (jN k o.z.toNat)) (zBg o.q).1 (zA2 k o.z.toNat o.w)
def kBp (n:NT)(o:OpP):NT×Int:=
 if chk o.w≠0 then(zeroT,chk o.w)else if(zBw n o.q).2≠0 then(zeroT,(zBw n o.q).2)else kLl n o (zE3 n o.q)
def zVl (n:NT)(o:OpP):NT×Int:=if(zBw n o.q).2≠0 then(zeroT,(zBw n o.q).2)else zGo (zBw n o.q).1 o.t (zE3 n o.q)
def set2 (n:NT)(o:OpP)(k:NT):NT×Int:=if PE k.ps o.o o.w≠0 then(zeroT,PE k.ps o.o o.w)else(putT n o.q (zEs k (zA7 k.ps o.o o.w)),0)
def setO (n:NT)(o:OpP):NT×Int:=if o.q.length=0 then(zeroT,6)else if(zGm n o.q).2≠0 then(zeroT,(zGm n o.q).2)else set2 n o (zGm n o.q).1
def kI0 (n:NT)(o:OpP)(k:NT)(r:List Int×Int):NT×Int:=if r.2≠0 then(zeroT,r.2)else(putT n o.q (zCz k r.1),0)
def zP1 (n:NT)(o:OpP)(f:List Int->List Int×Int):NT×Int:=if(zGm n o.q).2≠0 then(zeroT,(zGm n o.q).2)else if(zGm n o.q).1.lf=false then(zeroT,7)else kI0 n o (zGm n o.q).1 (f (zGm n o.q).1.tx)
noncomputable def doO (n:NT)(o:OpP):NT×Int:=
 if o.k=1 then kB7 n o else if o.k=2 then zVk n o else if o.k=3 then kBo n o else if o.k=4 then kBp n o else if o.k=5 then zVl n o else if o.k=6 then setO n o else
 if o.k=7 then zP1 n o (fun r=>zFx r o.z o.x)else zP1 n o (fun r=>zFe r o.z o.x)
noncomputable def zBl (p:List Int×Int)(o:OpP):Bool:=
 decide (zEr o.k o.q o.t o.z o.x.length 1 p=(p,true))&&decide (zEr (zGl o).1.k (zGl o).1.q (zGl o).1.t (zGl o).1.z (zGl o).1.x.length 1 p=(p,true))
noncomputable def jL (n:NT)(s:Sl)(o:OpP):(NT×Sl)×Int:=
 if zAd n≠0 then((zeroT,zeroS),zAd n)else if n.lf=true then((zeroT,zeroS),7)else if zE8 n s≠0 then((zeroT,zeroS),zE8 n s)else if zCx o≠0 then((zeroT,zeroS),zCx o)else
 if o.k=9 then(if zF7 s o.f=false then((zeroT,zeroS),9)else if zE8 n o.g≠0 then((zeroT,zeroS),zE8 n o.g)else((n,o.g),0))else
 if(doO n o).2≠0 then((zeroT,zeroS),(doO n o).2)else
 if(s.is&& !(zBl s.a o&&zBl s.f o))=true then((zeroT,zeroS),10)else(((doO n o).1,s),0)
theorem kF8 {ks:List NT}{t:NT}(hi:i<ks.length):spl (spl ks i 1 [h]) (i+1) 0 [t]=spl ks i 1 [h,t]:=by
 have e:(ks.take i++[h]).length=i+1:=by simp;omega
 unfold spl;rw[List.take_append,List.drop_append,e,Nat.add_zero,Nat.sub_self,List.take_of_length_le (l:=ks.take i++[h]) Kb,show(ks.take i++[h]).drop (i+1)=[]from List.drop_eq_nil_of_le Kb];simp
theorem zX1 {ks:List NT}{m:NT}(hi:i+1<ks.length):spl (spl ks (i+1) 1 []) i 1 [m]=spl ks i 2 [m]:=by
 unfold spl;have e:(ks.take (i+1)).length=i+1:=by simp;omega
 rw[List.append_nil,List.take_append,List.drop_append,e,show i-(i+1)=0 by omega,show i+1-(i+1)=0 by omega,show(ks.take (i+1)).drop (i+1)=[]from List.drop_eq_nil_of_le Kb,List.take_take];simp
theorem zBp {ks o:List NT}(h:j<i)(hi:i<=ks.length):(spl ks i m o)[j]? =ks[j]? :=by
 unfold spl;rw[List.append_assoc,List.getElem?_append_left Kf,List.getElem?_take_of_lt h]
theorem zAz {ks o:List NT}(h:j<o.length)(hi:i<=ks.length):(spl ks i m o)[i+j]? =o[j]? :=by
 unfold spl;have e:(ks.take i).length=i:=by simp;omega
 rw[List.append_assoc,List.getElem?_append_right Kb,e,show i+j-i=j by omega,List.getElem?_append_left h]
theorem zCj {ks o:List NT}(hi:i+m<=ks.length):(spl ks i m o)[i+o.length+j]? =ks[i+m+j]? :=by
 unfold spl;have e:(ks.take i).length=i:=by simp;omega
 rw[List.append_assoc,List.getElem?_append_right Kb,e,List.getElem?_append_right Kb,show i+o.length+j-i-o.length=j by omega,List.getElem?_drop]
theorem zEz :∀(n:NT)(p r:List Int)(m x:NT),kB n p=some x->putT n (p++r) m=putT n p (putT x r m)
 |n,[],r,m,x=>fun h=>by injection h with h;subst h;rfl
 |n,i::p,r,m,x=>by
  rw[zR];cases h:zBh n i with
  |none=>intro h2;cases h2
  |some k=>
   intro h2;simp only[List.cons_append,putT,h];rw[zEz k p r m x h2]
theorem zA9 :zBh n (i:Int)=n.ks[i]? :=by unfold zBh;rw[if_pos Kb];rfl
theorem zSg {x m:NT}(h:x.ks[i]? =some k):putT x [(i:Int)] m=setK x i m:=by
 simp only[putT,zA9,h];rfl
theorem zQa (h:q.length≠0):q=upP q++[lastL q]:=(zM7 h).symm
theorem zOm (u:List Int)(i:Int):upP (u++[i])=u:=by unfold upP;simp
theorem zC0 (u:List Int)(i:Int):lastL (u++[i])=i:=by
 unfold lastL;rw[jY _ _ Kc];simp
theorem zT6 (u:List Int)(i j:Int):sib (u++[i]) j=u++[j]:=by
 unfold sib;rw[List.length_append,List.length_singleton,Nat.add_sub_cancel,List.set_append_right _ _ Kl];simp
theorem zFy (u:List Int)(i:Nat):jV (u++[((i+1:Nat):Int)])=(u++[(i:Int)],0):=by
 unfold jV;rw[if_neg Kc,zC0,if_neg Kb,zT6];congr 3
 omega
theorem zLp (u:List Int)(i:Nat)(h:i<9223372036854775807):zBg (u++[(i:Int)])=(u++[((i+1:Nat):Int)],0):=by
 unfold zBg;rw[if_neg Kc,zC0,if_neg Kb,zT6];congr 3
theorem zO {α β:Type}{p:α×β}{a:α}{b:β}(h:p=(a,b)):p.1=a/\p.2=b:=by subst h;exact⟨rfl,rfl⟩
structure kMc (n:NT)(p:List Int)(m a:NT)(u:List Int)(i:Nat)(x:NT):Prop where
 path:p=u++[(i:Int)]
 at_:kB n u=some x
 elem:x.lf=false
 le:i<=x.ks.length
 eq:a=putT n u (jS x i 0 [m])
theorem zD7 {a m:NT}{p:List Int}(h:zGo n p m=(a,0)):∃u i x,kMc n p m a u i x:=by
 unfold zGo at h;split at h
 ·cases h
 ·rename_i hp
  cases hg:kB n (upP p)with
  |none=>rw[zFq (zBa _ _) hg]at h;cases h
  |some x=>
   rcases Classical.em ((zGn (lastL p) m x).2=0)with h0|h0
   ·rw[zCe (zBa _ _) hg h0]at h;have h1:=(zO h).1;unfold zGn at h0 h1;by_cases hl:x.lf=true
    ·rw[if_pos hl]at h0;cases h0
    rw[if_neg hl]at h0 h1;by_cases hi:lastL p<0∨(x.ks.length:Int)<lastL p
    ·rw[if_pos hi]at h0;cases h0
    rw[if_neg hi]at h1;refine⟨upP p,(lastL p).toNat,x,?_,hg,by simpa using hl,by omega,h1.symm⟩;conv=>lhs;rw[zQa hp]
    congr 2
    omega
   ·rw[zHu (zBa _ _) hg h0]at h;exact absurd (zO h).2 h0
structure zZi (n:NT)(p:List Int)(u:List Int)(i:Nat)(x k:NT):Prop where
 path:p=u++[(i:Int)]
 at_:kB n u=some x
 kid:x.ks[i]? =some k
 got:zE3 n p=k
 eq:(zBw n p).1=putT n u (jS x i 1 [])
theorem zBn {p:List Int}(h:(zBw n p).2=0):∃u i x k,zZi n p u i x k:=by
 obtain⟨x,k,hp,hg,hk,hm,he,_,_⟩:=zM8 h;obtain⟨k1,k2,k3⟩:=zA1 hk;refine⟨upP p,(lastL p).toNat,x,k,?_,hg,k3,hm,he⟩;conv=>lhs;rw[zQa hp]
 congr 2
 omega
theorem zZi.whole {x:NT}{p:List Int}(h:zZi n p u i x k):kB n p=some k:=by
 rw[h.path,jJ,h.at_];show kB x [(i:Int)]=_
 rw[zR,zA9,h.kid];rfl
structure kMd (n:NT)(o:OpP)(a:NT)(u:List Int)(i:Nat)(x b k:NT):Prop where
 path:o.q=u++[((i+1:Nat):Int)]
 at_:kB n u=some x
 b_:x.ks[i]? =some b
 k_:x.ks[i+1]? =some k
 leaf:b.lf=k.lf
 pos:zG9 b=o.z
 old:k.ps=o.o
 eq:a=putT n u (jS x i 2 [zAo b k])
theorem zC5 {a:NT}{o:OpP}(h:kBo n o=(a,0)):∃u i x b k,kMd n o a u i x b k:=by
 unfold kBo at h;by_cases hc:(zBw n o.q).2=0
 case neg=>rw[if_pos hc]at h;exact absurd (zO h).2 hc
 rw[if_neg (by simp[hc])]at h;by_cases hb:(jV o.q).2=0
 case neg=>rw[if_pos hb]at h;cases h
 rw[if_neg (by simp[hb])]at h;obtain⟨u,j,x,k,hf⟩:=zBn hc;obtain⟨i,rfl⟩:∃i,j=i+1:=by
  rw[hf.path]at hb;unfold jV at hb;rw[if_neg Kc,zC0]at hb;by_cases h1:(j:Int)<=0
  ·rw[if_pos h1]at hb;cases hb
  ·exact⟨j-1,by omega⟩
 have hbk:jV o.q=(u++[(i:Int)],0):=by rw[hf.path];exact zFy u i
 have hlen:=(List.getElem?_eq_some_iff.1 hf.kid).1;have aJ:x.ks[i]? =some x.ks[i]:=List.getElem?_eq_getElem Kb;have hg2:=jX n u (jS x (i+1) 1 []) x hf.at_;have hsk:(jS x (i+1) 1 []).ks[i]? =some x.ks[i]:=by
  show(spl x.ks (i+1) 1 [])[i]? =_
  rw[zBp Kb Kb,aJ]
 have hgb:kB (zBw n o.q).1 (jV o.q).1=some x.ks[i]:=by
  rw[hbk,hf.eq,jJ,hg2];show kB (jS x (i+1) 1 []) [(i:Int)]=_
  rw[zR,zA9,hsk];rfl
 rw[kP hgb,hf.got]at h;unfold kLk at h;by_cases h1:x.ks[i].lf=k.lf
 case neg=>rw[if_pos h1]at h;cases h
 rw[if_neg (by simp[h1])]at h;by_cases h2:zG9 x.ks[i]=o.z
 case neg=>rw[if_pos h2]at h;cases h
 rw[if_neg (by simp[h2])]at h;by_cases h3:k.ps=o.o
 case neg=>rw[if_pos h3]at h;cases h
 rw[if_neg (by simp[h3])]at h;refine⟨u,i,x,x.ks[i],k,hf.path,hf.at_,aJ,hf.kid,h1,h2,h3,?_⟩;rw[<-(zO h).1,hbk,hf.eq,zEz _ _ _ _ _ hg2,zEo _ _ _ _ _ hf.at_,zSg hsk];show putT n u (setK (jS x (i+1) 1 []) i (zAo x.ks[i] k))=_
 congr 1
 show NT.mk _ _ _ (spl (spl x.ks (i+1) 1 []) i 1 [_])=NT.mk _ _ _ _
 rw[zX1 Kb];rfl
structure kMe (n:NT)(o:OpP)(a:NT)(u:List Int)(i:Nat)(x k:NT):Prop where
 path:o.q=u++[(i:Int)]
 at_:kB n u=some x
 elem:x.lf=false
 kid:x.ks[i]? =some k
 new:chk o.w=0
 lo:0<=o.z
 hi:o.z<=zG9 k
 eq:a=putT n u (jS x i 1 [jN k o.z.toNat,zA2 k o.z.toNat o.w])
theorem zZj {x t:NT}(hg:kB n u=some x)(hk:x.ks[i]? =some k):kB (putT n (u++[(i:Int)]) h) u=some (setK x i h)/\putT (putT n (u++[(i:Int)]) h) u (jS (setK x i h) (i+1) 0 [t])=putT n u (jS x i 1 [h,t]):=by
 have e:putT n (u++[(i:Int)]) h=putT n u (setK x i h):=by rw[zEz _ _ _ _ _ hg,zSg hk]
 have hlen:=(List.getElem?_eq_some_iff.1 hk).1;rw[e];refine⟨jX n u _ x hg,?_⟩;rw[zEo _ _ _ _ _ hg];congr 1
 show NT.mk _ _ _ (spl (spl x.ks i 1 [h]) (i+1) 0 [t])=NT.mk _ _ _ _
 rw[kF8 hlen];rfl
theorem zCc {a:NT}{o:OpP}(hm:∀u x,kB n u=some x->x.ks.length<9223372036854775807)(h:kBp n o=(a,0)):∃u i x k,kMe n o a u i x k:=by
 unfold kBp at h;by_cases hw:chk o.w=0
 case neg=>rw[if_pos hw]at h;exact absurd (zO h).2 hw
 rw[if_neg (by simp[hw])]at h;by_cases hc:(zBw n o.q).2=0
 case neg=>rw[if_pos hc]at h;exact absurd (zO h).2 hc
 rw[if_neg (by simp[hc])]at h;obtain⟨u,i,x,k,hf⟩:=zBn hc;have hlen:=(List.getElem?_eq_some_iff.1 hf.kid).1;have hx:=hm u x hf.at_;rw[hf.got]at h;unfold kLl at h;by_cases hz:o.z<0∨zG9 k<o.z
 ·rw[if_pos hz]at h;cases h
 rw[if_neg hz,hf.path,zLp u i Kb]at h;obtain⟨e1,e2⟩:=zZj (h:=jN k o.z.toNat) (t:=zA2 k o.z.toNat o.w) hf.at_ hf.kid;obtain⟨u2,i2,y,ha⟩:=zD7 h;have hu:u2=u/\i2=i+1:=by
  have e3:=ha.path;have e4:=congrArg upP e3;have e5:=congrArg lastL e3;rw[zOm,zOm]at e4;rw[zC0,zC0]at e5;exact⟨e4.symm,by omega⟩
 obtain⟨rfl,rfl⟩:=hu;have hy:y=setK x i (jN k o.z.toNat):=by
  have:=ha.at_;rw[e1]at this;injection this with this;exact this.symm
 subst hy;exact⟨u2,i,x,k,hf.path,hf.at_,ha.elem,hf.kid,hw,by omega,by omega,by rw[ha.eq,e2]⟩
