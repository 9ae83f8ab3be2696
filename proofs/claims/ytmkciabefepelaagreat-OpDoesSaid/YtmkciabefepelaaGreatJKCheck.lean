import Derived.Test.YtmkciabefepelaaGreatJTLive
set_option maxRecDepth 4000
set_option maxHeartbeats 8000000
namespace Go.Proofs.YtmkciabefepelaaGreat
open Go.RowKit
variable {P:Prop}{W w:World}{ca cb d na nb:Nat}{u v:Value}{n:NT}{p q:List Int×Int}{A B:Option Addr}
theorem kOk (h:P:=by
 go_wp2_with(first
  |(go_at_call 30;rw[<-HW.o];refine HC.o.mono ?_;intro e w1 h1;obtain⟨v1,d1,rfl,ht1,hb1⟩:=h1;obtain⟨d',lf1,AJ,AK,AL,bJ,bK,bL,bM,bN,bO,_,gG,rfl,_,_,qZ,_⟩:=(ht1.at_ (B:=w1.heap.size) (fun b hb=>hb.2)).open_;have o6:=lO.o.symm.trans gG;clear gG;injection o6 with e1 e2 e3 e4;subst e1 e2 e3 e4;have hf2:=qZ.2.2.1;have aD:=hd hb1;clear ht1 hb1 qZ x0 x1 x2 x3 y0 y1;obtain⟨x0,x1,x2,x3,y0,y1⟩:=HK.o _ aD.o;have hl0:=kQ x0;have bo:=kQ y1)
  |fail)
 go_ret
 exact⟨zAj HF.o.symm,aj.o.trans ((aD.o.alloc aD.o.size _).mono aj.o.size)⟩):P:=h
theorem zSt (d:Nat)(w:World)(v:Value)(n:NT)(A:Option Addr)(p:List Int×Int)(lp c:Nat)(ay:p.1.length=lp)(hl:lp<=10000000)(hn:zV d w w.heap.size v n)(hp:IL w w.heap.size A p.1):
  Calls Tryz.prog 56 #[v,.agg #[.slice A lp c,.int .i64 p.2]] w (jA (.int .i64 (zK6 n p)) w):=by
 obtain⟨lf,PA,np,pc,TA,nt,tc,KA,nk,kc,rfl⟩:=hn.val;obtain⟨W0,hW⟩:∃W0,W0=(w.alloc (.cells #[.bool lf,.slice PA np pc,.slice TA nt tc,.slice KA nk kc] 26)).alloc (.cells #[.slice A lp c,.int .i64 p.2] 29):=⟨_,rfl⟩;have hb0:Below w.heap.size w W0:=hW▸kM Kk Kl;have e0:=zK2 w (Obj.cells #[Value.bool lf,.slice PA np pc,.slice TA nt tc,.slice KA nk kc] 26) (Obj.cells #[Value.slice A lp c,Value.int .i64 p.2] 29);rw[<-hW]at e0;have HK:=hd (show∀W,Below W0.heap.size W0 W->(W.cell? ⟨w.heap.size,0,none⟩=some (.bool lf)/\W.cell? ⟨w.heap.size,1,none⟩=some (.slice PA np pc)/\W.cell? ⟨w.heap.size,2,none⟩=some (.slice TA nt tc)/\W.cell? ⟨w.heap.size,3,none⟩=some (.slice KA nk kc)/\W.cell? ⟨w.heap.size+1,0,none⟩=some (.slice A lp c)/\W.cell? ⟨w.heap.size+1,1,none⟩=some (.int .i64 p.2))from fun W h=>by
  have h1:=zJ (kI e0.1 h);have h2:=kM8 (kI e0.2 h);exact⟨h1.1,h1.2.1,h1.2.2.1,h1.2.2.2.1,h2.1,h2.2.1⟩)
 obtain⟨x0,x1,x2,x3,y0,y1⟩:=HK.o _ Kk;have HW:=hd hW;have aj:=hd hb0;have hC:=zU9 d W0 _ n A p.1 lp c ay hl (hn.later hb0) (hp.later hb0);clear hn hp hW hb0 e0 ay hl;obtain⟨o,ho⟩:∃o,o=p.2:=⟨_,rfl⟩;cases hg:kB n p.1 with
 |none=>
  rw[zB2 hg]at hC;have HC:=hd hC;have HF:=hd (show zK6 n p=5 by unfold zK6;rw[hg]);have lO:=hd (show((zeroT,5):NT×Int).1=.mk false [] [] []from rfl);clear hg hC ho o;go_enter Tryz.func56,Tryz.ntmps56
  exact kOk
 | some m=>
  rw[kP hg]at hC;have HC:=hd hC;cases m with
  | mk ml mp mx mk=>
   have hF:zK6 n p=if ml=false then 7 else if p.2<0∨(mx.length:Int)<p.2 then 8 else 0:=by unfold zK6;rw[hg];rfl
   have lO:=hd (show((NT.mk ml mp mx mk,0):NT×Int).1=.mk ml mp mx mk from rfl);clear hg hC;cases ml with
   |false=>
    have HF:=hd (hF.trans (if_pos rfl));clear hF ho o;go_enter Tryz.func56,Tryz.ntmps56
    exact kOk
   | true=>
    rw[if_neg Kc]at hF;rw[<-ho]at hF y1 HK HW⊢;by_cases h1:o<0
    ·have HF:=hd (hF.trans (if_pos (.inl h1)));clear hF ho;go_enter Tryz.func56,Tryz.ntmps56
     exact kOk
    ·by_cases h2:(mx.length:Int)<o
     ·have HF:=hd (hF.trans (if_pos (.inr h2)));clear hF ho;go_enter Tryz.func56,Tryz.ntmps56
      exact kOk
     ·have HF:=hd (hF.trans (if_neg Kb));clear hF ho;go_enter Tryz.func56,Tryz.ntmps56
      exact kOk
theorem kOl (h:P:=by
 go_wp2_with(first
  |(go_at_call 97;rw[<-HW.o];refine HC.o.mono ?_;intro e w1 h1;obtain⟨v1,d1,rfl,ht1,hb1⟩:=h1;obtain⟨d',lf1,AJ,AK,AL,bJ,bK,bL,bM,bN,bO,_,gG,rfl,_,_,qZ,_⟩:=(ht1.at_ (B:=w1.heap.size) (fun b hb=>hb.2)).open_;have o6:=lO.o.symm.trans gG;clear gG;injection o6 with e1 e2 e3 e4;subst e1 e2 e3 e4;have hf2:=qZ.2.2.1;have aD:=hd hb1;clear ht1 hb1 qZ x0 x1 x2 x3 y0 y1;obtain⟨x0,x1,x2,x3,y0,y1⟩:=HK.o _ aD.o;have hl0:=kQ x0;have bo:=kQ y1)
  |fail)
 go_ret
 exact⟨zAj HF.o.symm,aj.o.trans ((aD.o.alloc aD.o.size _).mono aj.o.size)⟩):P:=h
theorem kRw (d:Nat)(w:World)(v:Value)(n:NT)(A:Option Addr)(p:List Int×Int)(lp c:Nat)(ay:p.1.length=lp)(hl:lp<=10000000)(hn:zV d w w.heap.size v n)(hp:IL w w.heap.size A p.1):
  Calls Tryz.prog 91 #[v,.agg #[.slice A lp c,.int .i64 p.2]] w (jA (.int .i64 (zK6 n p)) w):=by
 obtain⟨lf,PA,np,pc,TA,nt,tc,KA,nk,kc,rfl⟩:=hn.val;obtain⟨W0,hW⟩:∃W0,W0=(w.alloc (.cells #[.bool lf,.slice PA np pc,.slice TA nt tc,.slice KA nk kc] 26)).alloc (.cells #[.slice A lp c,.int .i64 p.2] 29):=⟨_,rfl⟩;have hb0:Below w.heap.size w W0:=hW▸kM Kk Kl;have e0:=zK2 w (Obj.cells #[Value.bool lf,.slice PA np pc,.slice TA nt tc,.slice KA nk kc] 26) (Obj.cells #[Value.slice A lp c,Value.int .i64 p.2] 29);rw[<-hW]at e0;have HK:=hd (show∀W,Below W0.heap.size W0 W->(W.cell? ⟨w.heap.size,0,none⟩=some (.bool lf)/\W.cell? ⟨w.heap.size,1,none⟩=some (.slice PA np pc)/\W.cell? ⟨w.heap.size,2,none⟩=some (.slice TA nt tc)/\W.cell? ⟨w.heap.size,3,none⟩=some (.slice KA nk kc)/\W.cell? ⟨w.heap.size+1,0,none⟩=some (.slice A lp c)/\W.cell? ⟨w.heap.size+1,1,none⟩=some (.int .i64 p.2))from fun W h=>by
  have h1:=zJ (kI e0.1 h);have h2:=kM8 (kI e0.2 h);exact⟨h1.1,h1.2.1,h1.2.2.1,h1.2.2.2.1,h2.1,h2.2.1⟩)
 obtain⟨x0,x1,x2,x3,y0,y1⟩:=HK.o _ Kk;have HW:=hd hW;have aj:=hd hb0;have hC:=kRa d W0 _ n A p.1 lp c ay hl (hn.later hb0) (hp.later hb0);clear hn hp hW hb0 e0 ay hl;obtain⟨o,ho⟩:∃o,o=p.2:=⟨_,rfl⟩;cases hg:kB n p.1 with
 |none=>
  rw[zB2 hg]at hC;have HC:=hd hC;have HF:=hd (show zK6 n p=5 by unfold zK6;rw[hg]);have lO:=hd (show((zeroT,5):NT×Int).1=.mk false [] [] []from rfl);clear hg hC ho o;go_enter Tryz.func91,Tryz.ntmps91
  exact kOl
 | some m=>
  rw[kP hg]at hC;have HC:=hd hC;cases m with
  | mk ml mp mx mk=>
   have hF:zK6 n p=if ml=false then 7 else if p.2<0∨(mx.length:Int)<p.2 then 8 else 0:=by unfold zK6;rw[hg];rfl
   have lO:=hd (show((NT.mk ml mp mx mk,0):NT×Int).1=.mk ml mp mx mk from rfl);clear hg hC;cases ml with
   |false=>
    have HF:=hd (hF.trans (if_pos rfl));clear hF ho o;go_enter Tryz.func91,Tryz.ntmps91
    exact kOl
   | true=>
    rw[if_neg Kc]at hF;rw[<-ho]at hF y1 HK HW⊢;by_cases h1:o<0
    ·have HF:=hd (hF.trans (if_pos (.inl h1)));clear hF ho;go_enter Tryz.func91,Tryz.ntmps91
     exact kOl
    ·by_cases h2:(mx.length:Int)<o
     ·have HF:=hd (hF.trans (if_pos (.inr h2)));clear hF ho;go_enter Tryz.func91,Tryz.ntmps91
      exact kOl
     ·have HF:=hd (hF.trans (if_neg Kb));clear hF ho;go_enter Tryz.func91,Tryz.ntmps91
      exact kOl
structure Sl where
 is:Bool
 a:List Int×Int
 f:List Int×Int
def zF7 (s t:Sl):Bool:=s.is==t.is&&samP s.a t.a&&samP s.f t.f
def zE8 (n:NT)(s:Sl):Int:=if s.is=false then(if samP s.a ([],0)=true/\samP s.f ([],0)=true then 0 else 1)else if zK6 n s.a=0 then zK6 n s.f else zK6 n s.a
theorem kGy {g:Nat}{a b c d e:Value}{t:TypeId}(h:w.heap[g]? =some (.cells #[a,b,c,d,e] t (0,0))):w.cell? ⟨g,0,none⟩=some a/\w.cell? ⟨g,1,none⟩=some b/\w.cell? ⟨g,2,none⟩=some c/\w.cell? ⟨g,3,none⟩=some d/\w.cell? ⟨g,4,none⟩=some e:=by
 refine⟨?_,?_,?_,?_,?_⟩<;>simp[World.cell?,h]
theorem zI4.zero (w:World):zI4 w (.agg #[.slice none 0 0,.int .i64 0]) ([],0):=⟨none,0,0,rfl,rfl,by omega,Nat.le_refl _,IL.nil _ _ _⟩
theorem kQf (h:P:=by
 go_wp2_with(first
  |(go_at_call 57;have _g:=aD;refine Calls.mono (ki.o _ aD.o) ?_;rintro e w2 ⟨rfl,b2⟩;have bq:=hd (aD.o.trans (b2.mono aD.o.size));clear b2)
  |(go_at_call 57;rw[HW.o];refine Calls.mono (cN.o _ Kk) ?_;rintro e w1 ⟨rfl,b1⟩;have aD:=hd b1;clear b1 x0 x1 x2 x3 x4 y0 y1 y2 y3 y4;obtain⟨x0,x1,x2,x3,x4,y0,y1,y2,y3,y4⟩:=HK.o _ aD.o)
  |fail)
 go_ret
 first
  |exact⟨kC Kc,aj.o.trans (bq.o.mono aj.o.size)⟩
  |exact⟨kC Kc,aj.o.trans (aD.o.mono aj.o.size)⟩
  |fail):P:=h
theorem zL4 (w:World)(s t:Sl)(A B C D:Option Addr)(na nb nc nd ca cb cc cd:Nat)(hA:zI4 w (.agg #[.slice A na ca,.int .i64 s.a.2]) s.a)(hB:zI4 w (.agg #[.slice B nb cb,.int .i64 s.f.2]) s.f)(hC:zI4 w (.agg #[.slice C nc cc,.int .i64 t.a.2]) t.a)(hD:zI4 w (.agg #[.slice D nd cd,.int .i64 t.f.2]) t.f):
  Calls Tryz.prog 20 #[.agg #[.bool s.is,.slice A na ca,.int .i64 s.a.2,.slice B nb cb,.int .i64 s.f.2],.agg #[.bool t.is,.slice C nc cc,.int .i64 t.a.2,.slice D nd cd,.int .i64 t.f.2]] w (jA (.bool (zF7 s t)) w):=by
 obtain⟨si,sa,sf⟩:=s;obtain⟨ti,ta,tf⟩:=t;simp only at hA hB hC hD⊢;obtain⟨W0,hW⟩:∃W0,(w.alloc (.cells #[.bool si,.slice A na ca,.int .i64 sa.2,.slice B nb cb,.int .i64 sf.2] 33)).alloc (.cells #[.bool ti,.slice C nc cc,.int .i64 ta.2,.slice D nd cd,.int .i64 tf.2] 33)=W0:=⟨_,rfl⟩;have hb0:Below w.heap.size w W0:=hW▸kM Kk Kl;have e0:=zK2 w (Obj.cells #[Value.bool si,.slice A na ca,.int .i64 sa.2,.slice B nb cb,.int .i64 sf.2] 33) (Obj.cells #[Value.bool ti,.slice C nc cc,.int .i64 ta.2,.slice D nd cd,.int .i64 tf.2] 33);rw[hW]at e0;have HK:=hd (show∀W,Below W0.heap.size W0 W->(W.cell? ⟨w.heap.size,0,none⟩=some (.bool si)/\W.cell? ⟨w.heap.size,1,none⟩=some (.slice A na ca)/\W.cell? ⟨w.heap.size,2,none⟩=some (.int .i64 sa.2)/\W.cell? ⟨w.heap.size,3,none⟩=some (.slice B nb cb)/\W.cell? ⟨w.heap.size,4,none⟩=some (.int .i64 sf.2)/\
   W.cell? ⟨w.heap.size+1,0,none⟩=some (.bool ti)/\W.cell? ⟨w.heap.size+1,1,none⟩=some (.slice C nc cc)/\W.cell? ⟨w.heap.size+1,2,none⟩=some (.int .i64 ta.2)/\W.cell? ⟨w.heap.size+1,3,none⟩=some (.slice D nd cd)/\W.cell? ⟨w.heap.size+1,4,none⟩=some (.int .i64 tf.2))from fun W h=>by
  obtain⟨h0,h1,h2,h3,h4⟩:=kGy (kI e0.1 h);obtain⟨g0,g1,g2,g3,g4⟩:=kGy (kI e0.2 h);exact⟨h0,h1,h2,h3,h4,g0,g1,g2,g3,g4⟩)
 obtain⟨x0,x1,x2,x3,x4,y0,y1,y2,y3,y4⟩:=HK.o _ Kk;have HW:=hd hW;have aj:=hd hb0;obtain⟨E1,gb⟩:∃E1,samP sa ta=E1:=⟨_,rfl⟩;obtain⟨E2,gf⟩:∃E2,samP sf tf=E2:=⟨_,rfl⟩;have cN:=hd (fun(W:World)(h:Below W0.heap.size W0 W)=>gb▸zYt (w:=W0) (W:=W) h (hA.later hb0) (hC.later hb0));have ki:=hd (fun(W:World)(h:Below W0.heap.size W0 W)=>gf▸zYt (w:=W0) (W:=W) h (hB.later hb0) (hD.later hb0));have hF:zF7 ⟨si,sa,sf⟩ ⟨ti,ta,tf⟩=(si==ti&&E1&&E2):=by unfold zF7;rw[gb,gf]
 rw[hF];clear hF gb gf hA hB hC hD hW hb0 e0;by_cases hi:si=ti
 ·subst hi;have g1:(si==si)=true:=by simp
  cases E1 with
  |true=>
   go_enter Tryz.func20,Tryz.ntmps20
   exact kQf
  |false=>
   go_enter Tryz.func20,Tryz.ntmps20
   exact kQf
 ·have g1:(si==ti)=false:=by simpa using hi
  clear hi;go_enter Tryz.func20,Tryz.ntmps20
  go_wp2_with(first
   |(go_at_call 57;have _g:=aD;refine Calls.mono (ki.o _ aD.o) ?_;rintro e w2 ⟨rfl,b2⟩;have bq:=hd (aD.o.trans (b2.mono aD.o.size));clear b2)
   |(go_at_call 57;rw[HW.o];refine Calls.mono (cN.o _ Kk) ?_;rintro e w1 ⟨rfl,b1⟩;have aD:=hd b1;clear b1 x0 x1 x2 x3 x4 y0 y1 y2 y3 y4;obtain⟨x0,x1,x2,x3,x4,y0,y1,y2,y3,y4⟩:=HK.o _ aD.o))
  rw[HW.o];go_ret
  exact⟨kC (by simp[g1]),aj.o⟩
theorem kQg (h:P:=by
 go_wp2_with(first
  |(go_at_call 52;have _g:=aD;refine Calls.mono (ki.o _ aD.o) ?_;rintro e w2 ⟨rfl,b2⟩;have bq:=hd (aD.o.trans (b2.mono aD.o.size));clear b2)
  |(go_at_call 52;rw[HW.o];refine Calls.mono (cN.o _ Kk) ?_;rintro e w1 ⟨rfl,b1⟩;have aD:=hd b1;clear b1 x0 x1 x2 x3 x4 y0 y1 y2 y3 y4;obtain⟨x0,x1,x2,x3,x4,y0,y1,y2,y3,y4⟩:=HK.o _ aD.o)
  |fail)
 go_ret
 first
  |exact⟨kC Kc,aj.o.trans (bq.o.mono aj.o.size)⟩
  |exact⟨kC Kc,aj.o.trans (aD.o.mono aj.o.size)⟩
  |fail):P:=h
theorem zQw (w:World)(s t:Sl)(A B C D:Option Addr)(na nb nc nd ca cb cc cd:Nat)(hA:zI4 w (.agg #[.slice A na ca,.int .i64 s.a.2]) s.a)(hB:zI4 w (.agg #[.slice B nb cb,.int .i64 s.f.2]) s.f)(hC:zI4 w (.agg #[.slice C nc cc,.int .i64 t.a.2]) t.a)(hD:zI4 w (.agg #[.slice D nd cd,.int .i64 t.f.2]) t.f):
  Calls Tryz.prog 16 #[.agg #[.bool s.is,.slice A na ca,.int .i64 s.a.2,.slice B nb cb,.int .i64 s.f.2],.agg #[.bool t.is,.slice C nc cc,.int .i64 t.a.2,.slice D nd cd,.int .i64 t.f.2]] w (jA (.bool (zF7 s t)) w):=by
 obtain⟨si,sa,sf⟩:=s;obtain⟨ti,ta,tf⟩:=t;simp only at hA hB hC hD⊢;obtain⟨W0,hW⟩:∃W0,(w.alloc (.cells #[.bool si,.slice A na ca,.int .i64 sa.2,.slice B nb cb,.int .i64 sf.2] 33)).alloc (.cells #[.bool ti,.slice C nc cc,.int .i64 ta.2,.slice D nd cd,.int .i64 tf.2] 33)=W0:=⟨_,rfl⟩;have hb0:Below w.heap.size w W0:=hW▸kM Kk Kl;have e0:=zK2 w (Obj.cells #[Value.bool si,.slice A na ca,.int .i64 sa.2,.slice B nb cb,.int .i64 sf.2] 33) (Obj.cells #[Value.bool ti,.slice C nc cc,.int .i64 ta.2,.slice D nd cd,.int .i64 tf.2] 33);rw[hW]at e0;have HK:=hd (show∀W,Below W0.heap.size W0 W->(W.cell? ⟨w.heap.size,0,none⟩=some (.bool si)/\W.cell? ⟨w.heap.size,1,none⟩=some (.slice A na ca)/\W.cell? ⟨w.heap.size,2,none⟩=some (.int .i64 sa.2)/\W.cell? ⟨w.heap.size,3,none⟩=some (.slice B nb cb)/\W.cell? ⟨w.heap.size,4,none⟩=some (.int .i64 sf.2)/\
   W.cell? ⟨w.heap.size+1,0,none⟩=some (.bool ti)/\W.cell? ⟨w.heap.size+1,1,none⟩=some (.slice C nc cc)/\W.cell? ⟨w.heap.size+1,2,none⟩=some (.int .i64 ta.2)/\W.cell? ⟨w.heap.size+1,3,none⟩=some (.slice D nd cd)/\W.cell? ⟨w.heap.size+1,4,none⟩=some (.int .i64 tf.2))from fun W h=>by
  obtain⟨h0,h1,h2,h3,h4⟩:=kGy (kI e0.1 h);obtain⟨g0,g1,g2,g3,g4⟩:=kGy (kI e0.2 h);exact⟨h0,h1,h2,h3,h4,g0,g1,g2,g3,g4⟩)
 obtain⟨x0,x1,x2,x3,x4,y0,y1,y2,y3,y4⟩:=HK.o _ Kk;have HW:=hd hW;have aj:=hd hb0;obtain⟨E1,gb⟩:∃E1,samP sa ta=E1:=⟨_,rfl⟩;obtain⟨E2,gf⟩:∃E2,samP sf tf=E2:=⟨_,rfl⟩;have cN:=hd (fun(W:World)(h:Below W0.heap.size W0 W)=>gb▸zUk (w:=W0) (W:=W) h (hA.later hb0) (hC.later hb0));have ki:=hd (fun(W:World)(h:Below W0.heap.size W0 W)=>gf▸zUk (w:=W0) (W:=W) h (hB.later hb0) (hD.later hb0));have hF:zF7 ⟨si,sa,sf⟩ ⟨ti,ta,tf⟩=(si==ti&&E1&&E2):=by unfold zF7;rw[gb,gf]
 rw[hF];clear hF gb gf hA hB hC hD hW hb0 e0;by_cases hi:si=ti
 ·subst hi;have g1:(si==si)=true:=by simp
  cases E1 with
  |true=>
   go_enter Tryz.func16,Tryz.ntmps16
   exact kQg
  |false=>
   go_enter Tryz.func16,Tryz.ntmps16
   exact kQg
 ·have g1:(si==ti)=false:=by simpa using hi
  clear hi;go_enter Tryz.func16,Tryz.ntmps16
  go_wp2_with(first
   |(go_at_call 52;have _g:=aD;refine Calls.mono (ki.o _ aD.o) ?_;rintro e w2 ⟨rfl,b2⟩;have bq:=hd (aD.o.trans (b2.mono aD.o.size));clear b2)
   |(go_at_call 52;rw[HW.o];refine Calls.mono (cN.o _ Kk) ?_;rintro e w1 ⟨rfl,b1⟩;have aD:=hd b1;clear b1 x0 x1 x2 x3 x4 y0 y1 y2 y3 y4;obtain⟨x0,x1,x2,x3,x4,y0,y1,y2,y3,y4⟩:=HK.o _ aD.o))
  rw[HW.o];go_ret
  exact⟨kC (by simp[g1]),aj.o⟩
theorem zUl (hb:Below w.heap.size w W)(hn:zV d w w.heap.size u n)(hp:zI4 w v p):Calls Tryz.prog 56 #[u,v] W (jA (.int .i64 (zK6 n p)) W):=by
 obtain⟨A,m,c,rfl,h1,h2,_,h3⟩:=hp.later hb;exact zSt d W u n A p m c h1 h2 (hn.later hb) h3
theorem kQ1 (hb:Below w.heap.size w W)(hn:zV d w w.heap.size u n)(hp:zI4 w v p):Calls Tryz.prog 91 #[u,v] W (jA (.int .i64 (zK6 n p)) W):=by
 obtain⟨A,m,c,rfl,h1,h2,_,h3⟩:=hp.later hb;exact kRw d W u n A p m c h1 h2 (hn.later hb) h3
theorem zK5 (d:Nat)(w:World)(v:Value)(n:NT)(p q:List Int×Int)(A B:Option Addr)(na nb ca cb:Nat)(hn:zV d w w.heap.size v n)(hA:zI4 w (.agg #[.slice A na ca,.int .i64 p.2]) p)(hB:zI4 w (.agg #[.slice B nb cb,.int .i64 q.2]) q):
  Calls Tryz.prog 19 #[v,.agg #[.bool true,.slice A na ca,.int .i64 p.2,.slice B nb cb,.int .i64 q.2]] w (jA (.int .i64 (zE8 n ⟨true,p,q⟩)) w):=by
 obtain⟨lf,PA,np,pc,TA,nt,tc,KA,nk,kc,rfl⟩:=hn.val;obtain⟨W0,hW⟩:∃W0,(w.alloc (.cells #[.bool lf,.slice PA np pc,.slice TA nt tc,.slice KA nk kc] 26)).alloc (.cells #[.bool true,.slice A na ca,.int .i64 p.2,.slice B nb cb,.int .i64 q.2] 33)=W0:=⟨_,rfl⟩;have hb0:Below w.heap.size w W0:=hW▸kM Kk Kl;have e0:=zK2 w (Obj.cells #[Value.bool lf,.slice PA np pc,.slice TA nt tc,.slice KA nk kc] 26) (Obj.cells #[Value.bool true,.slice A na ca,.int .i64 p.2,.slice B nb cb,.int .i64 q.2] 33);rw[hW]at e0;have HK:=hd (show∀W,Below W0.heap.size W0 W->(W.cell? ⟨w.heap.size,0,none⟩=some (.bool lf)/\W.cell? ⟨w.heap.size,1,none⟩=some (.slice PA np pc)/\W.cell? ⟨w.heap.size,2,none⟩=some (.slice TA nt tc)/\W.cell? ⟨w.heap.size,3,none⟩=some (.slice KA nk kc)/\
   W.cell? ⟨w.heap.size+1,0,none⟩=some (.bool true)/\W.cell? ⟨w.heap.size+1,1,none⟩=some (.slice A na ca)/\W.cell? ⟨w.heap.size+1,2,none⟩=some (.int .i64 p.2)/\W.cell? ⟨w.heap.size+1,3,none⟩=some (.slice B nb cb)/\W.cell? ⟨w.heap.size+1,4,none⟩=some (.int .i64 q.2))from fun W h=>by
  have h1:=zJ (kI e0.1 h);obtain⟨g0,g1,g2,g3,g4⟩:=kGy (kI e0.2 h);exact⟨h1.1,h1.2.1,h1.2.2.1,h1.2.2.2.1,g0,g1,g2,g3,g4⟩)
 obtain⟨x0,x1,x2,x3,y0,y1,y2,y3,y4⟩:=HK.o _ Kk;have HW:=hd hW;have aj:=hd hb0;obtain⟨E1,gb⟩:∃E1,zK6 n p=E1:=⟨_,rfl⟩;obtain⟨E2,gf⟩:∃E2,zK6 n q=E2:=⟨_,rfl⟩;have hF:zE8 n ⟨true,p,q⟩=if E1=0 then E2 else E1:=by unfold zE8;rw[if_neg Kc,gb,gf]
 rw[hF];have cN:=hd (fun(W:World)(h:Below W0.heap.size W0 W)=>gb▸zUl (w:=W0) (W:=W) h (hn.later hb0) (hA.later hb0));have ki:=hd (fun(W:World)(h:Below W0.heap.size W0 W)=>gf▸zUl (w:=W0) (W:=W) h (hn.later hb0) (hB.later hb0));clear hF gb gf hn hA hB hW hb0 e0;by_cases h0:E1=0
 ·subst h0;go_enter Tryz.func19,Tryz.ntmps19
  go_wp2_with(first
   |(go_at_call 56;have _g:=aD;refine Calls.mono (ki.o _ aD.o) ?_;rintro e w2 ⟨rfl,b2⟩;have bq:=hd (aD.o.trans (b2.mono aD.o.size));clear b2)
   |(go_at_call 56;rw[HW.o];refine Calls.mono (cN.o _ Kk) ?_;rintro e w1 ⟨rfl,b1⟩;have aD:=hd b1;clear b1 x0 x1 x2 x3 y0 y1 y2 y3 y4;obtain⟨x0,x1,x2,x3,y0,y1,y2,y3,y4⟩:=HK.o _ aD.o))
  go_ret
  exact⟨zAj Kc,aj.o.trans (bq.o.mono aj.o.size)⟩
 ·have g1:(E1 !=0)=true:=by simp[h0]
  rw[if_neg h0];clear h0;go_enter Tryz.func19,Tryz.ntmps19
  go_wp2_with(first
   |(go_at_call 56;rw[HW.o];refine Calls.mono (cN.o _ Kk) ?_;rintro e w1 ⟨rfl,b1⟩;have aD:=hd b1;clear b1 x0 x1 x2 x3 y0 y1 y2 y3 y4;obtain⟨x0,x1,x2,x3,y0,y1,y2,y3,y4⟩:=HK.o _ aD.o))
  go_ret
  exact⟨rfl,aj.o.trans (aD.o.mono aj.o.size)⟩
theorem kPi (d:Nat)(w:World)(v:Value)(n:NT)(p q:List Int×Int)(A B:Option Addr)(na nb ca cb:Nat)(hn:zV d w w.heap.size v n)(hA:zI4 w (.agg #[.slice A na ca,.int .i64 p.2]) p)(hB:zI4 w (.agg #[.slice B nb cb,.int .i64 q.2]) q):
  Calls Tryz.prog 46 #[v,.agg #[.bool true,.slice A na ca,.int .i64 p.2,.slice B nb cb,.int .i64 q.2]] w (jA (.int .i64 (zE8 n ⟨true,p,q⟩)) w):=by
 obtain⟨lf,PA,np,pc,TA,nt,tc,KA,nk,kc,rfl⟩:=hn.val;obtain⟨W0,hW⟩:∃W0,(w.alloc (.cells #[.bool lf,.slice PA np pc,.slice TA nt tc,.slice KA nk kc] 26)).alloc (.cells #[.bool true,.slice A na ca,.int .i64 p.2,.slice B nb cb,.int .i64 q.2] 33)=W0:=⟨_,rfl⟩;have hb0:Below w.heap.size w W0:=hW▸kM Kk Kl;have e0:=zK2 w (Obj.cells #[Value.bool lf,.slice PA np pc,.slice TA nt tc,.slice KA nk kc] 26) (Obj.cells #[Value.bool true,.slice A na ca,.int .i64 p.2,.slice B nb cb,.int .i64 q.2] 33);rw[hW]at e0;have HK:=hd (show∀W,Below W0.heap.size W0 W->(W.cell? ⟨w.heap.size,0,none⟩=some (.bool lf)/\W.cell? ⟨w.heap.size,1,none⟩=some (.slice PA np pc)/\W.cell? ⟨w.heap.size,2,none⟩=some (.slice TA nt tc)/\W.cell? ⟨w.heap.size,3,none⟩=some (.slice KA nk kc)/\
   W.cell? ⟨w.heap.size+1,0,none⟩=some (.bool true)/\W.cell? ⟨w.heap.size+1,1,none⟩=some (.slice A na ca)/\W.cell? ⟨w.heap.size+1,2,none⟩=some (.int .i64 p.2)/\W.cell? ⟨w.heap.size+1,3,none⟩=some (.slice B nb cb)/\W.cell? ⟨w.heap.size+1,4,none⟩=some (.int .i64 q.2))from fun W h=>by
  have h1:=zJ (kI e0.1 h);obtain⟨g0,g1,g2,g3,g4⟩:=kGy (kI e0.2 h);exact⟨h1.1,h1.2.1,h1.2.2.1,h1.2.2.2.1,g0,g1,g2,g3,g4⟩)
 obtain⟨x0,x1,x2,x3,y0,y1,y2,y3,y4⟩:=HK.o _ Kk;have HW:=hd hW;have aj:=hd hb0;obtain⟨E1,gb⟩:∃E1,zK6 n p=E1:=⟨_,rfl⟩;obtain⟨E2,gf⟩:∃E2,zK6 n q=E2:=⟨_,rfl⟩;have hF:zE8 n ⟨true,p,q⟩=if E1=0 then E2 else E1:=by unfold zE8;rw[if_neg Kc,gb,gf]
 rw[hF];have cN:=hd (fun(W:World)(h:Below W0.heap.size W0 W)=>gb▸kQ1 (w:=W0) (W:=W) h (hn.later hb0) (hA.later hb0));have ki:=hd (fun(W:World)(h:Below W0.heap.size W0 W)=>gf▸kQ1 (w:=W0) (W:=W) h (hn.later hb0) (hB.later hb0));clear hF gb gf hn hA hB hW hb0 e0;by_cases h0:E1=0
 ·subst h0;go_enter Tryz.func46,Tryz.ntmps46
  go_wp2_with(first
   |(go_at_call 91;have _g:=aD;refine Calls.mono (ki.o _ aD.o) ?_;rintro e w2 ⟨rfl,b2⟩;have bq:=hd (aD.o.trans (b2.mono aD.o.size));clear b2)
   |(go_at_call 91;rw[HW.o];refine Calls.mono (cN.o _ Kk) ?_;rintro e w1 ⟨rfl,b1⟩;have aD:=hd b1;clear b1 x0 x1 x2 x3 y0 y1 y2 y3 y4;obtain⟨x0,x1,x2,x3,y0,y1,y2,y3,y4⟩:=HK.o _ aD.o))
  go_ret
  exact⟨zAj Kc,aj.o.trans (bq.o.mono aj.o.size)⟩
 ·have g1:(E1 !=0)=true:=by simp[h0]
  rw[if_neg h0];clear h0;go_enter Tryz.func46,Tryz.ntmps46
  go_wp2_with(first
   |(go_at_call 91;rw[HW.o];refine Calls.mono (cN.o _ Kk) ?_;rintro e w1 ⟨rfl,b1⟩;have aD:=hd b1;clear b1 x0 x1 x2 x3 y0 y1 y2 y3 y4;obtain⟨x0,x1,x2,x3,y0,y1,y2,y3,y4⟩:=HK.o _ aD.o))
  go_ret
  exact⟨rfl,aj.o.trans (aD.o.mono aj.o.size)⟩
theorem zL5 (d:Nat)(w:World)(v:Value)(n:NT)(p q:List Int×Int)(A B:Option Addr)(na nb ca cb:Nat)(hn:zV d w w.heap.size v n)(hA:zI4 w (.agg #[.slice A na ca,.int .i64 p.2]) p)(hB:zI4 w (.agg #[.slice B nb cb,.int .i64 q.2]) q):
  Calls Tryz.prog 19 #[v,.agg #[.bool false,.slice A na ca,.int .i64 p.2,.slice B nb cb,.int .i64 q.2]] w (jA (.int .i64 (zE8 n ⟨false,p,q⟩)) w):=by
 obtain⟨lf,PA,np,pc,TA,nt,tc,KA,nk,kc,rfl⟩:=hn.val;obtain⟨W0,hW⟩:∃W0,(w.alloc (.cells #[.bool lf,.slice PA np pc,.slice TA nt tc,.slice KA nk kc] 26)).alloc (.cells #[.bool false,.slice A na ca,.int .i64 p.2,.slice B nb cb,.int .i64 q.2] 33)=W0:=⟨_,rfl⟩;have hb0:Below w.heap.size w W0:=hW▸kM Kk Kl;have e0:=zK2 w (Obj.cells #[Value.bool lf,.slice PA np pc,.slice TA nt tc,.slice KA nk kc] 26) (Obj.cells #[Value.bool false,.slice A na ca,.int .i64 p.2,.slice B nb cb,.int .i64 q.2] 33);rw[hW]at e0;have HK:=hd (show∀W,Below W0.heap.size W0 W->(W.cell? ⟨w.heap.size+1,0,none⟩=some (.bool false)/\W.cell? ⟨w.heap.size+1,1,none⟩=some (.slice A na ca)/\W.cell? ⟨w.heap.size+1,2,none⟩=some (.int .i64 p.2)/\W.cell? ⟨w.heap.size+1,3,none⟩=some (.slice B nb cb)/\W.cell? ⟨w.heap.size+1,4,none⟩=some (.int .i64 q.2))from fun W h=>kGy (kI e0.2 h));obtain⟨y0,y1,y2,y3,y4⟩:=HK.o _ Kk;have HW:=hd hW;have aj:=hd hb0;obtain⟨E,hE⟩:∃E,zF7 ⟨false,p,q⟩ ⟨false,([],0),([],0)⟩=E:=⟨_,rfl⟩;have HC:=hd (hE▸zL4 W0 ⟨false,p,q⟩ ⟨false,([],0),([],0)⟩ A B none none na nb 0 0 ca cb 0 0 (hA.later hb0) (hB.later hb0) (zI4.zero _) (zI4.zero _));have hF:zE8 n ⟨false,p,q⟩=if E=true then 0 else 1:=by
  unfold zE8;rw[if_pos rfl,<-hE];unfold zF7;simp
 rw[hF];clear hF hE hn hA hB hW hb0 e0;cases E<;>
 ·go_enter Tryz.func19,Tryz.ntmps19
  go_wp2_with(go_at_call 20;rw[HW.o];refine Calls.mono HC.o ?_;rintro e w1 ⟨rfl,b1⟩;have aD:=hd b1;clear b1)
  go_ret
  exact⟨rfl,aj.o.trans (aD.o.mono aj.o.size)⟩
theorem kPt (d:Nat)(w:World)(v:Value)(n:NT)(p q:List Int×Int)(A B:Option Addr)(na nb ca cb:Nat)(hn:zV d w w.heap.size v n)(hA:zI4 w (.agg #[.slice A na ca,.int .i64 p.2]) p)(hB:zI4 w (.agg #[.slice B nb cb,.int .i64 q.2]) q):
  Calls Tryz.prog 46 #[v,.agg #[.bool false,.slice A na ca,.int .i64 p.2,.slice B nb cb,.int .i64 q.2]] w (jA (.int .i64 (zE8 n ⟨false,p,q⟩)) w):=by
 obtain⟨lf,PA,np,pc,TA,nt,tc,KA,nk,kc,rfl⟩:=hn.val;obtain⟨W0,hW⟩:∃W0,(w.alloc (.cells #[.bool lf,.slice PA np pc,.slice TA nt tc,.slice KA nk kc] 26)).alloc (.cells #[.bool false,.slice A na ca,.int .i64 p.2,.slice B nb cb,.int .i64 q.2] 33)=W0:=⟨_,rfl⟩;have hb0:Below w.heap.size w W0:=hW▸kM Kk Kl;have e0:=zK2 w (Obj.cells #[Value.bool lf,.slice PA np pc,.slice TA nt tc,.slice KA nk kc] 26) (Obj.cells #[Value.bool false,.slice A na ca,.int .i64 p.2,.slice B nb cb,.int .i64 q.2] 33);rw[hW]at e0;have HK:=hd (show∀W,Below W0.heap.size W0 W->(W.cell? ⟨w.heap.size+1,0,none⟩=some (.bool false)/\W.cell? ⟨w.heap.size+1,1,none⟩=some (.slice A na ca)/\W.cell? ⟨w.heap.size+1,2,none⟩=some (.int .i64 p.2)/\W.cell? ⟨w.heap.size+1,3,none⟩=some (.slice B nb cb)/\W.cell? ⟨w.heap.size+1,4,none⟩=some (.int .i64 q.2))from fun W h=>kGy (kI e0.2 h));obtain⟨y0,y1,y2,y3,y4⟩:=HK.o _ Kk;have HW:=hd hW;have aj:=hd hb0;obtain⟨E1,gb⟩:∃E1,samP p ([],0)=E1:=⟨_,rfl⟩;obtain⟨E2,gf⟩:∃E2,samP q ([],0)=E2:=⟨_,rfl⟩;have cN:=hd (fun(W:World)(h:Below W0.heap.size W0 W)=>gb▸zUk (w:=W0) (W:=W) h (hA.later hb0) (zI4.zero _));have ki:=hd (fun(W:World)(h:Below W0.heap.size W0 W)=>gf▸zUk (w:=W0) (W:=W) h (hB.later hb0) (zI4.zero _));have hF:zE8 n ⟨false,p,q⟩=if E1=true/\E2=true then 0 else 1:=by
  unfold zE8;rw[if_pos rfl,<-gb,<-gf]
 rw[hF];clear hF gb gf hn hA hB hW hb0 e0;cases E1
 ·rw[if_neg Kc];go_enter Tryz.func46,Tryz.ntmps46
  go_wp2_with(go_at_call 52;rw[HW.o];refine Calls.mono (cN.o _ Kk) ?_;rintro e w1 ⟨rfl,b1⟩;have aD:=hd b1;clear b1)
  go_ret
  exact⟨rfl,aj.o.trans (aD.o.mono aj.o.size)⟩
 ·cases E2<;>
  ·go_enter Tryz.func46,Tryz.ntmps46
   go_wp2_with(first
    |(go_at_call 52;have _g:=aD;refine Calls.mono (ki.o _ aD.o) ?_;rintro e w2 ⟨rfl,b2⟩;have bq:=hd (aD.o.trans (b2.mono aD.o.size));clear b2)
    |(go_at_call 52;rw[HW.o];refine Calls.mono (cN.o _ Kk) ?_;rintro e w1 ⟨rfl,b1⟩;have aD:=hd b1;clear b1 y0 y1 y2 y3 y4;obtain⟨y0,y1,y2,y3,y4⟩:=HK.o _ aD.o))
   go_ret
   exact⟨zAj Kc,aj.o.trans (bq.o.mono aj.o.size)⟩
theorem zSu {b:Bool}(h:Below w.heap.size w W)(hn:zV d w w.heap.size v n)(hA:zI4 w (.agg #[.slice A na ca,.int .i64 p.2]) p)(hB:zI4 w (.agg #[.slice B nb cb,.int .i64 q.2]) q):
  Calls Tryz.prog 19 #[v,.agg #[.bool b,.slice A na ca,.int .i64 p.2,.slice B nb cb,.int .i64 q.2]] W (jA (.int .i64 (zE8 n ⟨b,p,q⟩)) W):=by
 cases b
 ·exact zL5 d W v n p q A B na nb ca cb (hn.later h) (hA.later h) (hB.later h)
 ·exact zK5 d W v n p q A B na nb ca cb (hn.later h) (hA.later h) (hB.later h)
theorem kQ2 {b:Bool}(h:Below w.heap.size w W)(hn:zV d w w.heap.size v n)(hA:zI4 w (.agg #[.slice A na ca,.int .i64 p.2]) p)(hB:zI4 w (.agg #[.slice B nb cb,.int .i64 q.2]) q):
  Calls Tryz.prog 46 #[v,.agg #[.bool b,.slice A na ca,.int .i64 p.2,.slice B nb cb,.int .i64 q.2]] W (jA (.int .i64 (zE8 n ⟨b,p,q⟩)) W):=by
 cases b
 ·exact kPt d W v n p q A B na nb ca cb (hn.later h) (hA.later h) (hB.later h)
 ·exact kPi d W v n p q A B na nb ca cb (hn.later h) (hA.later h) (hB.later h)
def jI (l:List Int):Bool:=l.all fun n=>decide (0<=n)&&decide (n<=1048576)
theorem zDf (l:List Int):jI l=true ↔∀k,k<l.length->0<=iAt l k/\iAt l k<=1048576:=by
 unfold jI;simp only[List.all_eq_true,Bool.and_eq_true,decide_eq_true_iff];constructor
 ·intro h k hk;rw[jY l k hk];exact h _ (List.getElem_mem hk)
 ·intro h x hx;obtain⟨k,hk,rfl⟩:=List.getElem_of_mem hx;have:=h k hk;rwa[jY l k hk]at this
theorem zQx (l:List Int)(k:Nat)(hk:k<l.length)(h:¬(0<=iAt l k/\iAt l k<=1048576)):jI l=false:=by
 cases e:jI l
 ·rfl
 ·exact absurd ((zDf l).1 e k hk) h
def zE9 (n:Int):Bool:=decide (0<=n)&&decide (n<=1048576)
theorem zN2 (n:Int):jI [n]=zE9 n:=by simp[jI,zE9]
theorem zKd (n:Int):zE9 n=true ↔ 0<=n/\n<=1048576:=by simp[zE9]
def addL (l:List Int)(k:Nat)(v:Int):List Int:=l.set k (iAt l k+v)
theorem zJe (l:List Int)(k:Nat)(v:Int):(addL l k v).length=l.length:=by simp[addL]
theorem zSv (l:List Int)(k:Nat)(v:Int)(h:k<l.length):iAt (addL l k v) k=iAt l k+v:=by
 rw[jY _ k (by rw[zJe];exact h)];simp[addL]
theorem zYu (l:List Int)(k j:Nat)(v:Int)(h:j≠k):iAt (addL l k v) j=iAt l j:=by
 unfold iAt addL;rw[List.getD_eq_getElem?_getD,List.getD_eq_getElem?_getD,List.getElem?_set_ne Kb]
theorem zL1 {l m:List Int}(h:l.length=m.length)(h2:∀k,k<l.length->iAt l k=iAt m k):l=m:=by
 apply List.ext_getElem h;intro i h3 h4;have:=h2 i h3;rwa[jY l i h3,jY m i h4]at this
def plusL (l:List Int)(k:Nat):List Int->List Int
 |[]=>l
 |v::by_=>plusL (addL l k v) (k+1) by_
theorem zJf (by_:List Int):∀(l:List Int)(k:Nat),(plusL l k by_).length=l.length:=by
 induction by_ with
 |nil=>intro l k;rfl
 |cons v r ih=>intro l k;rw[plusL,ih,zJe]
theorem zVx (r:List Int)(v:Int):∀(l:List Int)(k:Nat),plusL l k (r++[v])=addL (plusL l k r) (k+r.length) v:=by
 induction r with
 |nil=>intro l k;rfl
 |cons x r ih=>intro l k;rw[List.cons_append,plusL,plusL,ih];rw[show k+1+r.length=k+(x::r).length by simp;omega]
theorem zVy (by_:List Int)(l:List Int)(k n:Nat)(hn:n<by_.length):plusL l k (by_.take (n+1))=addL (plusL l k (by_.take n)) (k+n) (iAt by_ n):=by
 rw[List.take_add_one,List.getElem?_eq_getElem hn];simp only[Option.toList_some];rw[zVx,jY by_ n hn];congr 2
 simp;omega
theorem zN3 (by_:List Int):∀(l:List Int)(k j:Nat),k+by_.length<=j->iAt (plusL l k by_) j=iAt l j:=by
 induction by_ with
 |nil=>intro l k j h;rfl
 |cons v r ih=>intro l k j h;simp at h;rw[plusL,ih _ _ _ Kb,zYu _ _ _ _ Kb]
def zX (q p:List Int):Int:=if zFg q p then 1 else if zEd q p then 2 else if zBu q p then 3 else 0
theorem zIv (q p:List Int):zX q p=1 ↔ zFg q p=true:=by unfold zX;split<;>rename_i h<;>simp[h];split<;>(try split)<;>simp
theorem zYv (p:List Int):zFg p p=false:=by
 cases h:zFg p p
 ·rfl
 ·rw[zEe]at h;omega
theorem zVz {q p:List Int}(h:zBu q p=true):zFg q p=false:=by
 cases h2:zFg q p
 ·rfl
 ·rw[zEe]at h2;rw[zE0,<-zDg]at h;omega
theorem kI1 {q p:List Int}(h:zBu q p=true):zEd q p=false:=by
 cases h2:zEd q p
 ·rfl
 ·unfold zEd at h2;rw[of_decide_eq_true h2]at h;rw[zE0]at h;omega
theorem zAt (q p:List Int):(zX q p=1/\zFg q p=true/\zEd q p=false/\zBu q p=false)∨(zX q p=2/\zFg q p=false/\zEd q p=true/\zBu q p=false)∨(zX q p=3/\zFg q p=false/\zEd q p=false/\zBu q p=true)∨(zX q p=0/\zFg q p=false/\zEd q p=false/\zBu q p=false):=by
 unfold zX;cases h1:zFg q p
 ·cases h2:zEd q p
  ·cases h3:zBu q p
   ·simp
   ·simp
  ·have:q=p:=by unfold zEd at h2;exact of_decide_eq_true h2
   subst this;have:zBu q q=false:=by
    cases h3:zBu q q
    ·rfl
    ·rw[zE0]at h3;omega
   simp[this]
 ·have h2:zEd q p=false:=by
   cases h2:zEd q p
   ·rfl
   ·unfold zEd at h2;rw[of_decide_eq_true h2,zYv]at h1;cases h1
  have h3:zBu q p=false:=by
   cases h3:zBu q p
   ·rfl
   ·rw[zVz h3]at h1;cases h1
  simp[h2,h3]
def noR :List Int×Bool:=([],false)
def jH (k:Int)(q:List Int)(pos:Int)(p:List Int):List Int×Bool:=
 if q.length=0 then(p,true)
 else if k=1 then(if zX q p=0 then(p,true)else(plusL p (q.length-1) [1],true))
 else if k=2 then(if zX q p=0 then(p,true)else if zX q p=1 then(plusL p (q.length-1) [-1],true)else noR)
 else if k=3 then(if lastL q=0 then noR else if zX q p=0 then(p,true)else if zX q p=3 then(plusL p (q.length-1) [-1,pos],true)else(plusL p (q.length-1) [-1],true))
 else if k=4 then(if zX q p=1 then(plusL p (q.length-1) [1],true)else if zX q p=3/\pos<=iAt p q.length then(plusL p (q.length-1) [1,-pos],true)else(p,true))
 else(p,true)
def jF (k:Int)(q t:List Int)(pos:Int)(p:List Int):List Int×Bool:=
 if jI p&&jI q&&jI t&&zE9 pos then
  if k=5/\q.length≠0 then(if zX q p=2∨zX q p=3 then(t++p.drop q.length,true)else jH 1 t 0 (jH 2 q 0 p).1)
  else jH k q pos p
 else noR
