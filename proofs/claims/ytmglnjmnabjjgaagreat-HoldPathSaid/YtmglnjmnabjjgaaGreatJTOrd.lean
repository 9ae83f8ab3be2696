import Derived.Test.YtmglnjmnabjjgaaGreatJTAt
set_option maxRecDepth 4000
set_option maxHeartbeats 8000000
namespace Go.Proofs.YtmglnjmnabjjgaaGreat
open Go.RowKit
variable {W w:World}{u v:Value}{p q t:List Int}{d k:Nat}{K pos:Int}
mutual
theorem kQb (lv:Bool):∀(n:NT)(q r:List Int),pathsN lv n (q++r)=(pathsN lv n r).map (q++·)
 |.mk lf _ _ ks,q,r=>by
  rw[pathsN,pathsN,List.map_append,kQc lv ks 0 q r];congr 1
  split<;>rfl
theorem kQc (lv:Bool):∀(ks:List NT)(i:Nat)(q r:List Int),pathsK lv ks i (q++r)=(pathsK lv ks i r).map (q++·)
 |[],i,q,r=>rfl
 |k::s,i,q,r=>by
  rw[pathsK,pathsK,List.map_append,kQc lv s (i+1) q r,List.append_assoc,kQb lv k q (r++[(i:Int)])]
end
theorem kTv (lv:Bool)(n:NT)(i:Nat):pathsN lv n ([]++[(i:Int)])=(pathsN lv n []).map ((i:Int)::·):=by
 have:=kQb lv n [(i:Int)] [];rw[List.append_nil]at this;rw[List.nil_append,this];rfl
mutual
theorem kSv :∀(n:NT)(q:List Int),(pathsN false n q).length+(textT n).length=sizeT n
 |.mk lf _ tx ks,q=>by
  have:=kQd ks 0 q;rw[pathsN,textT,sizeT,List.length_append,List.length_append];simp;omega
theorem kQd :∀(ks:List NT)(i:Nat)(q:List Int),(pathsK false ks i q).length+(textK ks).length=sizeK ks
 |[],i,q=>rfl
 |k::r,i,q=>by
  have h1:=kSv k (q++[(i:Int)]);have h2:=kQd r (i+1) q;rw[pathsK,textK,sizeK,List.length_append,List.length_append];omega
end
def kVb (ks:List NT)(i:Nat):List Int->Option NT
 |[]=>none
 |a::r=>if(i:Int)<=a then(ks[(a-i).toNat]?).bind fun m=>kB m r else none
theorem kV4 (n:NT)(a:Int)(r:List Int):kB n (a::r)=kVb n.ks 0 (a::r):=by
 rw[zR];unfold kVb zBh;simp only[Int.natCast_zero,Int.sub_zero];split<;>rfl
theorem kU0 (k:NT)(s:List NT)(i:Nat)(p:List Int):kVb (k::s) i p=match p with
  |[]=>none
  |a::r=>if a=(i:Int)then kB k r else kVb s (i+1) (a::r):=by
 cases p with
 |nil=>rfl
 |cons a r=>
  simp only[kVb];by_cases h1:a=(i:Int)
  ·subst h1;simp
  ·rw[if_neg h1];by_cases h2:(i:Int)<=a
   ·rw[if_pos h2,if_pos Kb,show(a-(i:Int)).toNat=(a-((i+1:Nat):Int)).toNat+1 by omega,List.getElem?_cons_succ]
   ·rw[if_neg h2,if_neg Kb]
mutual
theorem kP4 :∀(n:NT)(p:List Int),p ∈ pathsN false n [] ↔ (kB n p).isSome=true
 |.mk lf ps tx ks,p=>by
  rw[pathsN];cases p with
  |nil=>simp[kB]
  |cons a r=>
   rw[kV4];have:=kQv ks 0 (a::r);simp only[Bool.not_false,Bool.or_true,if_true,List.mem_append,List.mem_singleton,reduceCtorEq,false_or];exact this
theorem kQv :∀(ks:List NT)(i:Nat)(p:List Int),p ∈ pathsK false ks i [] ↔ (kVb ks i p).isSome=true
 |[],i,p=>by
  cases p with
  |nil=>simp[pathsK,kVb]
  |cons a r=>simp[pathsK,kVb]
 | k ::s,i,p=>by
  rw[pathsK,List.mem_append,kTv,kQv s (i+1) p,kU0];cases p with
  |nil=>simp[kVb]
  | cons a r=>
   simp only;by_cases h1:a=(i:Int)
   ·subst h1;rw[if_pos rfl];constructor
    ·rintro(h|h)
     ·obtain⟨r',h2,h3⟩:=List.mem_map.1 h;injection h3 with _ h3;subst h3;exact(kP4 k r').1 h2
     ·exfalso;simp only[kVb]at h;rw[if_neg Kb]at h;cases h
    ·intro h;exact .inl (List.mem_map.2 ⟨r,(kP4 k r).2 h,rfl⟩)
   ·rw[if_neg h1];constructor
    ·rintro(h|h)
     ·obtain⟨r',_,h3⟩:=List.mem_map.1 h;injection h3 with h3 _;exact absurd h3.symm h1
     ·exact h
    ·exact fun h=>.inr h
end
def kNg (n:NT)(q:List Int):Int:=match kB n q with
 |none=>0
 |some m=>m.tx.length
def zK6 (n:NT)(p:List Int×Int):Int:=match kB n p.1 with
 |none=>5
 |some m=>if m.lf=false then 7 else if p.2<0∨(m.tx.length:Int)<p.2 then 8 else 0
theorem zGh :∀(p:List Int)(n m:NT),kB n p=some m->p.length+sizeT m<=sizeT n
 |[],n,m,h=>by rw[kB]at h;injection h with h;rw[h];simp
 |a::r,n,m,h=>by
  rw[zR]at h;cases hk:zBh n a with
  |none=>rw[hk]at h;cases h
  |some k=>
   rw[hk]at h;have h1:=zGh r k m h;have h2:=kAj (zA1 hk).2.2;have h3:sizeK n.ks<sizeT n:=by cases n;rw[sizeT];simp only[NT.ks];omega
   simp only[List.length_cons];omega
def eO :Option (List Int)->Int
 |none=>14
 |some _=>0
def zI4 (w:World)(v:Value)(p:List Int×Int):Prop:=∃A n c,v=.agg #[.slice A n c,.int .i64 p.2]/\p.1.length=n/\n<=10000000/\n<=c/\IL w w.heap.size A p.1
theorem zI4.later {w':World}{p:List Int×Int}(h:zI4 w v p)(hb:Below w.heap.size w w'):zI4 w' v p:=by
 obtain⟨A,n,c,e,h1,h2,h3,h4⟩:=h;exact⟨A,n,c,e,h1,h2,h3,h4.later hb⟩
theorem kMz {p q:List Int×Int}(hb:Below w.heap.size w W)(hp:zI4 w u p)(hq:zI4 w v q):Calls Tryz.prog 92 #[u,v] W (jA (.int .i64 (kFb p q)) W):=by
 obtain⟨A,n,c,rfl,h1,h2,_,h3⟩:=hp.later hb;obtain⟨B,m,d,rfl,g1,g2,_,g3⟩:=hq.later hb;exact zKy A B p q n m c d W h1 g1 Kb Kb h3 g3
theorem zYt {p q:List Int×Int}(hb:Below w.heap.size w W)(hp:zI4 w u p)(hq:zI4 w v q):Calls Tryz.prog 63 #[u,v] W (jA (.bool (samP p q)) W):=by
 obtain⟨A,n,c,rfl,h1,h2,_,h3⟩:=hp.later hb;obtain⟨B,m,d,rfl,g1,g2,_,g3⟩:=hq.later hb;exact zQj A B p q n m c d W h1 g1 Kb Kb h3 g3
theorem kPt {P:Prop}(h:P:=by
 go_wp2_with(first
  |(go_at_call 15;rw[<-HW.o];refine HC.o.mono ?_;intro e w1 h1;obtain⟨v1,d1,rfl,ht1,hb1⟩:=h1;obtain⟨d',lf1,Fa,Fb,Fe,cI,cJ,cK,cL,cM,kc1,_,ji,rfl,_,_,tG,_⟩:=(ht1.at_ (B:=w1.heap.size) (fun b hb=>hb.2)).open_;have yw:=lO.o.symm.trans ji;clear ji;injection yw with e1 e2 e3 e4;subst e1 e2 e3 e4;have hf2:=tG.2.2.1;have aO:=hd hb1;clear ht1 hb1 tG x0 x1 x2 x3 y0 y1;obtain⟨x0,x1,x2,x3,y0,y1⟩:=HK.o _ aO.o;have hl0:=kQ x0;have bl:=kQ y1)
  |fail)
 go_ret
 exact⟨zAj HF.o.symm,aB.o.trans ((aO.o.alloc aO.o.size _).mono aB.o.size)⟩):P:=h
theorem zSt (d:Nat)(w:World)(v:Value)(n:NT)(A:Option Addr)(p:List Int×Int)(lp c:Nat)(bc:p.1.length=lp)(hl:lp<=10000000)(hn:zV d w w.heap.size v n)(hp:IL w w.heap.size A p.1):
  Calls Tryz.prog 57 #[v,.agg #[.slice A lp c,.int .i64 p.2]] w (jA (.int .i64 (zK6 n p)) w):=by
 obtain⟨lf,PA,np,pc,TA,nt,tc,KA,nk,kc,rfl⟩:=hn.val;obtain⟨W0,hW⟩:∃W0,W0=(w.alloc (.cells #[.bool lf,.slice PA np pc,.slice TA nt tc,.slice KA nk kc] 26)).alloc (.cells #[.slice A lp c,.int .i64 p.2] 29):=⟨_,rfl⟩;have hb0:Below w.heap.size w W0:=hW▸kM Kl Km;have e0:=zK2 w (Obj.cells #[Value.bool lf,.slice PA np pc,.slice TA nt tc,.slice KA nk kc] 26) (Obj.cells #[Value.slice A lp c,Value.int .i64 p.2] 29);rw[<-hW]at e0;have HK:=hd (show∀W,Below W0.heap.size W0 W->(W.cell? ⟨w.heap.size,0,none⟩=some (.bool lf)/\W.cell? ⟨w.heap.size,1,none⟩=some (.slice PA np pc)/\W.cell? ⟨w.heap.size,2,none⟩=some (.slice TA nt tc)/\W.cell? ⟨w.heap.size,3,none⟩=some (.slice KA nk kc)/\W.cell? ⟨w.heap.size+1,0,none⟩=some (.slice A lp c)/\W.cell? ⟨w.heap.size+1,1,none⟩=some (.int .i64 p.2))from fun W h=>by
  have h1:=zJ (kI e0.1 h);have h2:=kM8 (kI e0.2 h);exact⟨h1.1,h1.2.1,h1.2.2.1,h1.2.2.2.1,h2.1,h2.2.1⟩)
 obtain⟨x0,x1,x2,x3,y0,y1⟩:=HK.o _ Kl;have HW:=hd hW;have aB:=hd hb0;have hC:=zU9 d W0 _ n A p.1 lp c bc hl (hn.later hb0) (hp.later hb0);clear hn hp hW hb0 e0 bc hl;obtain⟨o,ho⟩:∃o,o=p.2:=⟨_,rfl⟩;cases hg:kB n p.1 with
 |none=>
  rw[zB2 hg]at hC;have HC:=hd hC;have HF:=hd (show zK6 n p=5 by unfold zK6;rw[hg]);have lO:=hd (show((zeroT,5):NT×Int).1=.mk false [] [] []from rfl);clear hg hC ho o;go_enter Tryz.func57,Tryz.ntmps57
  exact kPt
 | some m=>
  rw[kP hg]at hC;have HC:=hd hC;cases m with
  | mk ml mp mx mk=>
   have hF:zK6 n p=if ml=false then 7 else if p.2<0∨(mx.length:Int)<p.2 then 8 else 0:=by unfold zK6;rw[hg];rfl
   have lO:=hd (show((NT.mk ml mp mx mk,0):NT×Int).1=.mk ml mp mx mk from rfl);clear hg hC;cases ml with
   |false=>
    have HF:=hd (hF.trans (if_pos rfl));clear hF ho o;go_enter Tryz.func57,Tryz.ntmps57
    exact kPt
   | true=>
    rw[if_neg Kc]at hF;rw[<-ho]at hF y1 HK HW⊢;by_cases h1:o<0
    ·have HF:=hd (hF.trans (if_pos (.inl h1)));clear hF ho;go_enter Tryz.func57,Tryz.ntmps57
     exact kPt
    ·by_cases h2:(mx.length:Int)<o
     ·have HF:=hd (hF.trans (if_pos (.inr h2)));clear hF ho;go_enter Tryz.func57,Tryz.ntmps57
      exact kPt
     ·have HF:=hd (hF.trans (if_neg Kb));clear hF ho;go_enter Tryz.func57,Tryz.ntmps57
      exact kPt
structure Sl where
 is:Bool
 a:List Int×Int
 f:List Int×Int
def zF7 (s t:Sl):Bool:=s.is==t.is&&samP s.a t.a&&samP s.f t.f
def zE8 (n:NT)(s:Sl):Int:=if s.is=false then(if samP s.a ([],0)=true/\samP s.f ([],0)=true then 0 else 1)else if zK6 n s.a=0 then zK6 n s.f else zK6 n s.a
theorem kGy {g:Nat}{a b c d e:Value}{t:TypeId}(h:w.heap[g]? =some (.cells #[a,b,c,d,e] t (0,0))):w.cell? ⟨g,0,none⟩=some a/\w.cell? ⟨g,1,none⟩=some b/\w.cell? ⟨g,2,none⟩=some c/\w.cell? ⟨g,3,none⟩=some d/\w.cell? ⟨g,4,none⟩=some e:=by
 refine⟨?_,?_,?_,?_,?_⟩<;>simp[World.cell?,h]
theorem zI4.zero (w:World):zI4 w (.agg #[.slice none 0 0,.int .i64 0]) ([],0):=⟨none,0,0,rfl,rfl,by omega,Nat.le_refl _,IL.nil _ _ _⟩
theorem kTe {P:Prop}(h:P:=by
 go_wp2_with(first
  |(go_at_call 63;have _g:=aO;refine Calls.mono (rU.o _ aO.o) ?_;rintro e w2 ⟨rfl,b2⟩;have aL:=hd (aO.o.trans (b2.mono aO.o.size));clear b2)
  |(go_at_call 63;rw[HW.o];refine Calls.mono (jm.o _ Kl) ?_;rintro e w1 ⟨rfl,b1⟩;have aO:=hd b1;clear b1 x0 x1 x2 x3 x4 y0 y1 y2 y3 y4;obtain⟨x0,x1,x2,x3,x4,y0,y1,y2,y3,y4⟩:=HK.o _ aO.o)
  |fail)
 go_ret
 first
  |exact⟨kC Kc,aB.o.trans (aL.o.mono aB.o.size)⟩
  |exact⟨kC Kc,aB.o.trans (aO.o.mono aB.o.size)⟩
  |fail):P:=h
theorem zL4 (w:World)(s t:Sl)(A B C D:Option Addr)(na nb nc nd ca cb cc cd:Nat)(hA:zI4 w (.agg #[.slice A na ca,.int .i64 s.a.2]) s.a)(hB:zI4 w (.agg #[.slice B nb cb,.int .i64 s.f.2]) s.f)(hC:zI4 w (.agg #[.slice C nc cc,.int .i64 t.a.2]) t.a)(hD:zI4 w (.agg #[.slice D nd cd,.int .i64 t.f.2]) t.f):
  Calls Tryz.prog 64 #[.agg #[.bool s.is,.slice A na ca,.int .i64 s.a.2,.slice B nb cb,.int .i64 s.f.2],.agg #[.bool t.is,.slice C nc cc,.int .i64 t.a.2,.slice D nd cd,.int .i64 t.f.2]] w (jA (.bool (zF7 s t)) w):=by
 obtain⟨si,sa,sf⟩:=s;obtain⟨ti,ta,tf⟩:=t;simp only at hA hB hC hD⊢;obtain⟨W0,hW⟩:∃W0,(w.alloc (.cells #[.bool si,.slice A na ca,.int .i64 sa.2,.slice B nb cb,.int .i64 sf.2] 33)).alloc (.cells #[.bool ti,.slice C nc cc,.int .i64 ta.2,.slice D nd cd,.int .i64 tf.2] 33)=W0:=⟨_,rfl⟩;have hb0:Below w.heap.size w W0:=hW▸kM Kl Km;have e0:=zK2 w (Obj.cells #[Value.bool si,.slice A na ca,.int .i64 sa.2,.slice B nb cb,.int .i64 sf.2] 33) (Obj.cells #[Value.bool ti,.slice C nc cc,.int .i64 ta.2,.slice D nd cd,.int .i64 tf.2] 33);rw[hW]at e0;have HK:=hd (show∀W,Below W0.heap.size W0 W->(W.cell? ⟨w.heap.size,0,none⟩=some (.bool si)/\W.cell? ⟨w.heap.size,1,none⟩=some (.slice A na ca)/\W.cell? ⟨w.heap.size,2,none⟩=some (.int .i64 sa.2)/\W.cell? ⟨w.heap.size,3,none⟩=some (.slice B nb cb)/\W.cell? ⟨w.heap.size,4,none⟩=some (.int .i64 sf.2)/\
   W.cell? ⟨w.heap.size+1,0,none⟩=some (.bool ti)/\W.cell? ⟨w.heap.size+1,1,none⟩=some (.slice C nc cc)/\W.cell? ⟨w.heap.size+1,2,none⟩=some (.int .i64 ta.2)/\W.cell? ⟨w.heap.size+1,3,none⟩=some (.slice D nd cd)/\W.cell? ⟨w.heap.size+1,4,none⟩=some (.int .i64 tf.2))from fun W h=>by
  obtain⟨h0,h1,h2,h3,h4⟩:=kGy (kI e0.1 h);obtain⟨g0,g1,g2,g3,g4⟩:=kGy (kI e0.2 h);exact⟨h0,h1,h2,h3,h4,g0,g1,g2,g3,g4⟩)
 obtain⟨x0,x1,x2,x3,x4,y0,y1,y2,y3,y4⟩:=HK.o _ Kl;have HW:=hd hW;have aB:=hd hb0;obtain⟨E1,mA⟩:∃E1,samP sa ta=E1:=⟨_,rfl⟩;obtain⟨E2,jf⟩:∃E2,samP sf tf=E2:=⟨_,rfl⟩;have jm:=hd (fun(W:World)(h:Below W0.heap.size W0 W)=>mA▸zYt (w:=W0) (W:=W) h (hA.later hb0) (hC.later hb0));have rU:=hd (fun(W:World)(h:Below W0.heap.size W0 W)=>jf▸zYt (w:=W0) (W:=W) h (hB.later hb0) (hD.later hb0));have hF:zF7 ⟨si,sa,sf⟩ ⟨ti,ta,tf⟩=(si==ti&&E1&&E2):=by unfold zF7;rw[mA,jf]
 rw[hF];clear hF mA jf hA hB hC hD hW hb0 e0;by_cases hi:si=ti
 ·subst hi;have g1:(si==si)=true:=by simp
  cases E1 with
  |true=>
   go_enter Tryz.func64,Tryz.ntmps64
   exact kTe
  |false=>
   go_enter Tryz.func64,Tryz.ntmps64
   exact kTe
 ·have g1:(si==ti)=false:=by simpa using hi
  clear hi;go_enter Tryz.func64,Tryz.ntmps64
  go_wp2_with(first
   |(go_at_call 63;have _g:=aO;refine Calls.mono (rU.o _ aO.o) ?_;rintro e w2 ⟨rfl,b2⟩;have aL:=hd (aO.o.trans (b2.mono aO.o.size));clear b2)
   |(go_at_call 63;rw[HW.o];refine Calls.mono (jm.o _ Kl) ?_;rintro e w1 ⟨rfl,b1⟩;have aO:=hd b1;clear b1 x0 x1 x2 x3 x4 y0 y1 y2 y3 y4;obtain⟨x0,x1,x2,x3,x4,y0,y1,y2,y3,y4⟩:=HK.o _ aO.o))
  rw[HW.o];go_ret
  exact⟨kC (by simp[g1]),aB.o⟩
theorem zUl {n:NT}{p:List Int×Int}(hb:Below w.heap.size w W)(hn:zV d w w.heap.size u n)(hp:zI4 w v p):Calls Tryz.prog 57 #[u,v] W (jA (.int .i64 (zK6 n p)) W):=by
 obtain⟨A,m,c,rfl,h1,h2,_,h3⟩:=hp.later hb;exact zSt d W u n A p m c h1 h2 (hn.later hb) h3
theorem zK5 (d:Nat)(w:World)(v:Value)(n:NT)(p q:List Int×Int)(A B:Option Addr)(na nb ca cb:Nat)(hn:zV d w w.heap.size v n)(hA:zI4 w (.agg #[.slice A na ca,.int .i64 p.2]) p)(hB:zI4 w (.agg #[.slice B nb cb,.int .i64 q.2]) q):
  Calls Tryz.prog 66 #[v,.agg #[.bool true,.slice A na ca,.int .i64 p.2,.slice B nb cb,.int .i64 q.2]] w (jA (.int .i64 (zE8 n ⟨true,p,q⟩)) w):=by
 obtain⟨lf,PA,np,pc,TA,nt,tc,KA,nk,kc,rfl⟩:=hn.val;obtain⟨W0,hW⟩:∃W0,(w.alloc (.cells #[.bool lf,.slice PA np pc,.slice TA nt tc,.slice KA nk kc] 26)).alloc (.cells #[.bool true,.slice A na ca,.int .i64 p.2,.slice B nb cb,.int .i64 q.2] 33)=W0:=⟨_,rfl⟩;have hb0:Below w.heap.size w W0:=hW▸kM Kl Km;have e0:=zK2 w (Obj.cells #[Value.bool lf,.slice PA np pc,.slice TA nt tc,.slice KA nk kc] 26) (Obj.cells #[Value.bool true,.slice A na ca,.int .i64 p.2,.slice B nb cb,.int .i64 q.2] 33);rw[hW]at e0;have HK:=hd (show∀W,Below W0.heap.size W0 W->(W.cell? ⟨w.heap.size,0,none⟩=some (.bool lf)/\W.cell? ⟨w.heap.size,1,none⟩=some (.slice PA np pc)/\W.cell? ⟨w.heap.size,2,none⟩=some (.slice TA nt tc)/\W.cell? ⟨w.heap.size,3,none⟩=some (.slice KA nk kc)/\
   W.cell? ⟨w.heap.size+1,0,none⟩=some (.bool true)/\W.cell? ⟨w.heap.size+1,1,none⟩=some (.slice A na ca)/\W.cell? ⟨w.heap.size+1,2,none⟩=some (.int .i64 p.2)/\W.cell? ⟨w.heap.size+1,3,none⟩=some (.slice B nb cb)/\W.cell? ⟨w.heap.size+1,4,none⟩=some (.int .i64 q.2))from fun W h=>by
  have h1:=zJ (kI e0.1 h);obtain⟨g0,g1,g2,g3,g4⟩:=kGy (kI e0.2 h);exact⟨h1.1,h1.2.1,h1.2.2.1,h1.2.2.2.1,g0,g1,g2,g3,g4⟩)
 obtain⟨x0,x1,x2,x3,y0,y1,y2,y3,y4⟩:=HK.o _ Kl;have HW:=hd hW;have aB:=hd hb0;obtain⟨E1,mA⟩:∃E1,zK6 n p=E1:=⟨_,rfl⟩;obtain⟨E2,jf⟩:∃E2,zK6 n q=E2:=⟨_,rfl⟩;have hF:zE8 n ⟨true,p,q⟩=if E1=0 then E2 else E1:=by unfold zE8;rw[if_neg Kc,mA,jf]
 rw[hF];have jm:=hd (fun(W:World)(h:Below W0.heap.size W0 W)=>mA▸zUl (w:=W0) (W:=W) h (hn.later hb0) (hA.later hb0));have rU:=hd (fun(W:World)(h:Below W0.heap.size W0 W)=>jf▸zUl (w:=W0) (W:=W) h (hn.later hb0) (hB.later hb0));clear hF mA jf hn hA hB hW hb0 e0;by_cases h0:E1=0
 ·subst h0;go_enter Tryz.func66,Tryz.ntmps66
  go_wp2_with(first
   |(go_at_call 57;have _g:=aO;refine Calls.mono (rU.o _ aO.o) ?_;rintro e w2 ⟨rfl,b2⟩;have aL:=hd (aO.o.trans (b2.mono aO.o.size));clear b2)
   |(go_at_call 57;rw[HW.o];refine Calls.mono (jm.o _ Kl) ?_;rintro e w1 ⟨rfl,b1⟩;have aO:=hd b1;clear b1 x0 x1 x2 x3 y0 y1 y2 y3 y4;obtain⟨x0,x1,x2,x3,y0,y1,y2,y3,y4⟩:=HK.o _ aO.o))
  go_ret
  exact⟨zAj Kc,aB.o.trans (aL.o.mono aB.o.size)⟩
 ·have g1:(E1 !=0)=true:=by simp[h0]
  rw[if_neg h0];clear h0;go_enter Tryz.func66,Tryz.ntmps66
  go_wp2_with(first
   |(go_at_call 57;rw[HW.o];refine Calls.mono (jm.o _ Kl) ?_;rintro e w1 ⟨rfl,b1⟩;have aO:=hd b1;clear b1 x0 x1 x2 x3 y0 y1 y2 y3 y4;obtain⟨x0,x1,x2,x3,y0,y1,y2,y3,y4⟩:=HK.o _ aO.o))
  go_ret
  exact⟨rfl,aB.o.trans (aO.o.mono aB.o.size)⟩
theorem zL5 (d:Nat)(w:World)(v:Value)(n:NT)(p q:List Int×Int)(A B:Option Addr)(na nb ca cb:Nat)(hn:zV d w w.heap.size v n)(hA:zI4 w (.agg #[.slice A na ca,.int .i64 p.2]) p)(hB:zI4 w (.agg #[.slice B nb cb,.int .i64 q.2]) q):
  Calls Tryz.prog 66 #[v,.agg #[.bool false,.slice A na ca,.int .i64 p.2,.slice B nb cb,.int .i64 q.2]] w (jA (.int .i64 (zE8 n ⟨false,p,q⟩)) w):=by
 obtain⟨lf,PA,np,pc,TA,nt,tc,KA,nk,kc,rfl⟩:=hn.val;obtain⟨W0,hW⟩:∃W0,(w.alloc (.cells #[.bool lf,.slice PA np pc,.slice TA nt tc,.slice KA nk kc] 26)).alloc (.cells #[.bool false,.slice A na ca,.int .i64 p.2,.slice B nb cb,.int .i64 q.2] 33)=W0:=⟨_,rfl⟩;have hb0:Below w.heap.size w W0:=hW▸kM Kl Km;have e0:=zK2 w (Obj.cells #[Value.bool lf,.slice PA np pc,.slice TA nt tc,.slice KA nk kc] 26) (Obj.cells #[Value.bool false,.slice A na ca,.int .i64 p.2,.slice B nb cb,.int .i64 q.2] 33);rw[hW]at e0;have HK:=hd (show∀W,Below W0.heap.size W0 W->(W.cell? ⟨w.heap.size+1,0,none⟩=some (.bool false)/\W.cell? ⟨w.heap.size+1,1,none⟩=some (.slice A na ca)/\W.cell? ⟨w.heap.size+1,2,none⟩=some (.int .i64 p.2)/\W.cell? ⟨w.heap.size+1,3,none⟩=some (.slice B nb cb)/\W.cell? ⟨w.heap.size+1,4,none⟩=some (.int .i64 q.2))from fun W h=>kGy (kI e0.2 h));obtain⟨y0,y1,y2,y3,y4⟩:=HK.o _ Kl;have HW:=hd hW;have aB:=hd hb0;obtain⟨E,hE⟩:∃E,zF7 ⟨false,p,q⟩ ⟨false,([],0),([],0)⟩=E:=⟨_,rfl⟩;have HC:=hd (hE▸zL4 W0 ⟨false,p,q⟩ ⟨false,([],0),([],0)⟩ A B none none na nb 0 0 ca cb 0 0 (hA.later hb0) (hB.later hb0) (zI4.zero _) (zI4.zero _));have hF:zE8 n ⟨false,p,q⟩=if E=true then 0 else 1:=by
  unfold zE8;rw[if_pos rfl,<-hE];unfold zF7;simp
 rw[hF];clear hF hE hn hA hB hW hb0 e0;cases E<;>
 ·go_enter Tryz.func66,Tryz.ntmps66
  go_wp2_with(go_at_call 64;rw[HW.o];refine Calls.mono HC.o ?_;rintro e w1 ⟨rfl,b1⟩;have aO:=hd b1;clear b1)
  go_ret
  exact⟨rfl,aB.o.trans (aO.o.mono aB.o.size)⟩
theorem zSu {n:NT}{b:Bool}{p q:List Int×Int}{A B:Option Addr}{na nb ca cb:Nat}(h:Below w.heap.size w W)(hn:zV d w w.heap.size v n)(hA:zI4 w (.agg #[.slice A na ca,.int .i64 p.2]) p)(hB:zI4 w (.agg #[.slice B nb cb,.int .i64 q.2]) q):
  Calls Tryz.prog 66 #[v,.agg #[.bool b,.slice A na ca,.int .i64 p.2,.slice B nb cb,.int .i64 q.2]] W (jA (.int .i64 (zE8 n ⟨b,p,q⟩)) W):=by
 cases b
 ·exact zL5 d W v n p q A B na nb ca cb (hn.later h) (hA.later h) (hB.later h)
 ·exact zK5 d W v n p q A B na nb ca cb (hn.later h) (hA.later h) (hB.later h)
def jI (l:List Int):Bool:=l.all fun n=>decide (0<=n)&&decide (n<=1048576)
theorem zDf (l:List Int):jI l=true ↔∀k,k<l.length->0<=iAt l k/\iAt l k<=1048576:=by
 unfold jI;simp only[List.all_eq_true,Bool.and_eq_true,decide_eq_true_iff];constructor
 ·intro h k hk;rw[jY l k hk];exact h _ (List.getElem_mem hk)
 ·intro h x hx;obtain⟨k,hk,rfl⟩:=List.getElem_of_mem hx;have:=h k hk;rwa[jY l k hk]at this
theorem zQx (l:List Int)(k:Nat)(hk:k<l.length)(h:¬(0<=iAt l k/\iAt l k<=1048576)):jI l=false:=by
 cases e:jI l
 ·rfl
 ·exact absurd ((zDf l).1 e k hk) h
def zE9 (n:Int):Bool:=decide (0<=n)&&decide (n<=1048576)
theorem zN2 (n:Int):jI [n]=zE9 n:=by simp[jI,zE9]
theorem zKd (n:Int):zE9 n=true ↔ 0<=n/\n<=1048576:=by simp[zE9]
def addL (l:List Int)(k:Nat)(v:Int):List Int:=l.set k (iAt l k+v)
theorem zJe (l:List Int)(k:Nat)(v:Int):(addL l k v).length=l.length:=by simp[addL]
theorem zSv (l:List Int)(k:Nat)(v:Int)(h:k<l.length):iAt (addL l k v) k=iAt l k+v:=by
 rw[jY _ k (by rw[zJe];exact h)];simp[addL]
theorem zYu (l:List Int)(k j:Nat)(v:Int)(h:j≠k):iAt (addL l k v) j=iAt l j:=by
 unfold iAt addL;rw[List.getD_eq_getElem?_getD,List.getD_eq_getElem?_getD,List.getElem?_set_ne Kb]
theorem zL1 {l m:List Int}(h:l.length=m.length)(h2:∀k,k<l.length->iAt l k=iAt m k):l=m:=by
 apply List.ext_getElem h;intro i h3 h4;have:=h2 i h3;rwa[jY l i h3,jY m i h4]at this
def plusL (l:List Int)(k:Nat):List Int->List Int
 |[]=>l
 |v::by_=>plusL (addL l k v) (k+1) by_
theorem zJf (by_:List Int):∀(l:List Int)(k:Nat),(plusL l k by_).length=l.length:=by
 induction by_ with
 |nil=>intro l k;rfl
 |cons v r ih=>intro l k;rw[plusL,ih,zJe]
theorem zVx (r:List Int)(v:Int):∀(l:List Int)(k:Nat),plusL l k (r++[v])=addL (plusL l k r) (k+r.length) v:=by
 induction r with
 |nil=>intro l k;rfl
 |cons x r ih=>intro l k;rw[List.cons_append,plusL,plusL,ih];rw[show k+1+r.length=k+(x::r).length by simp;omega]
theorem zVy (by_:List Int)(l:List Int)(k n:Nat)(hn:n<by_.length):plusL l k (by_.take (n+1))=addL (plusL l k (by_.take n)) (k+n) (iAt by_ n):=by
 rw[List.take_add_one,List.getElem?_eq_getElem hn];simp only[Option.toList_some];rw[zVx,jY by_ n hn];congr 2
 simp;omega
theorem zN3 (by_:List Int):∀(l:List Int)(k j:Nat),k+by_.length<=j->iAt (plusL l k by_) j=iAt l j:=by
 induction by_ with
 |nil=>intro l k j h;rfl
 |cons v r ih=>intro l k j h;simp at h;rw[plusL,ih _ _ _ Kb,zYu _ _ _ _ Kb]
def zX (q p:List Int):Int:=if zFg q p then 1 else if zEd q p then 2 else if zBu q p then 3 else 0
theorem zIv (q p:List Int):zX q p=1 ↔ zFg q p=true:=by unfold zX;split<;>rename_i h<;>simp[h];split<;>(try split)<;>simp
theorem zYv (p:List Int):zFg p p=false:=by
 cases h:zFg p p
 ·rfl
 ·rw[zEe]at h;omega
theorem zVz (h:zBu q p=true):zFg q p=false:=by
 cases h2:zFg q p
 ·rfl
 ·rw[zEe]at h2;rw[zE0,<-zDg]at h;omega
theorem kI1 (h:zBu q p=true):zEd q p=false:=by
 cases h2:zEd q p
 ·rfl
 ·unfold zEd at h2;rw[of_decide_eq_true h2]at h;rw[zE0]at h;omega
theorem zAt (q p:List Int):(zX q p=1/\zFg q p=true/\zEd q p=false/\zBu q p=false)∨(zX q p=2/\zFg q p=false/\zEd q p=true/\zBu q p=false)∨(zX q p=3/\zFg q p=false/\zEd q p=false/\zBu q p=true)∨(zX q p=0/\zFg q p=false/\zEd q p=false/\zBu q p=false):=by
 unfold zX;cases h1:zFg q p
 ·cases h2:zEd q p
  ·cases h3:zBu q p
   ·simp
   ·simp
  ·have:q=p:=by unfold zEd at h2;exact of_decide_eq_true h2
   subst this;have:zBu q q=false:=by
    cases h3:zBu q q
    ·rfl
    ·rw[zE0]at h3;omega
   simp[this]
 ·have h2:zEd q p=false:=by
   cases h2:zEd q p
   ·rfl
   ·unfold zEd at h2;rw[of_decide_eq_true h2,zYv]at h1;cases h1
  have h3:zBu q p=false:=by
   cases h3:zBu q p
   ·rfl
   ·rw[zVz h3]at h1;cases h1
  simp[h2,h3]
def noR :List Int×Bool:=([],false)
def jH (k:Int)(q:List Int)(pos:Int)(p:List Int):List Int×Bool:=
 if q.length=0 then(p,true)
 else if k=1 then(if zX q p=0 then(p,true)else(plusL p (q.length-1) [1],true))
 else if k=2 then(if zX q p=0 then(p,true)else if zX q p=1 then(plusL p (q.length-1) [-1],true)else noR)
 else if k=3 then(if lastL q=0 then noR else if zX q p=0 then(p,true)else if zX q p=3 then(plusL p (q.length-1) [-1,pos],true)else(plusL p (q.length-1) [-1],true))
 else if k=4 then(if zX q p=1 then(plusL p (q.length-1) [1],true)else if zX q p=3/\pos<=iAt p q.length then(plusL p (q.length-1) [1,-pos],true)else(p,true))
 else(p,true)
def jF (k:Int)(q t:List Int)(pos:Int)(p:List Int):List Int×Bool:=
 if jI p&&jI q&&jI t&&zE9 pos then
  if k=5/\q.length≠0 then(if zX q p=2∨zX q p=3 then(t++p.drop q.length,true)else jH 1 t 0 (jH 2 q 0 p).1)
  else jH k q pos p
 else noR
theorem kCo (a b:List Int)(k:Nat)(h1:k<=a.length)(h2:k<=b.length)(h:∀j,j<k->iAt a j=iAt b j):k<=kO a b:=by
 rcases Nat.lt_or_ge (kO a b) k with hl|hg
 ·exact absurd (h _ hl) (zQl a b Kb Kb)
 ·exact hg
theorem zIt (hk:q.length=k+1):zX q p=1 ↔ k<p.length/\(∀j,j<k->iAt q j=iAt p j)/\iAt q k<iAt p k:=by
 rw[zIv,zEe];constructor
 ·rintro⟨h1,h2,h3⟩;have e:kO q p=k:=Kb;rw[e]at h2 h3;exact⟨h2,fun j hj=>zGp q p j Kb,h3⟩
 ·rintro⟨h1,h2,h3⟩;have e:kO q p=k:=zEc q p k Kb Kb h2 (fun _ _=>by omega);rw[e];exact⟨by omega,h1,h3⟩
theorem zCw :zX q p=2 ↔ q=p:=by
 rcases zAt q p with⟨h0,_,h2,_⟩|⟨h0,_,h2,_⟩|⟨h0,_,h2,_⟩|⟨h0,_,h2,_⟩
 ·rw[h0];unfold zEd at h2;have:=of_decide_eq_false h2;simp[this]
 ·rw[h0];unfold zEd at h2;have:=of_decide_eq_true h2;simp[this]
 ·rw[h0];unfold zEd at h2;have:=of_decide_eq_false h2;simp[this]
 ·rw[h0];unfold zEd at h2;have:=of_decide_eq_false h2;simp[this]
theorem zL6 :zX q p=3 ↔ q.length<p.length/\∀j,j<q.length->iAt q j=iAt p j:=by
 have hx:zBu q p=true ↔ q.length<p.length/\∀j,j<q.length->iAt q j=iAt p j:=by
  rw[zE0];constructor
  ·rintro⟨h1,h2⟩;exact⟨h1,fun j hj=>zYj h2 hj⟩
  ·rintro⟨h1,h2⟩;refine⟨h1,(zDg q p).1 ?_⟩;have:=kCo q p q.length Km Kb h2;have:=(zHf q p).1;omega
 rw[<-hx];rcases zAt q p with⟨h0,_,_,h2⟩|⟨h0,_,_,h2⟩|⟨h0,_,_,h2⟩|⟨h0,_,_,h2⟩<;>simp[h0,h2]
theorem zJg (hk:q.length=k+1)(h:zX q p=2∨zX q p=3):k<p.length/\∀j,j<k+1->iAt q j=iAt p j:=by
 rcases h with h|h
 ·rw[zCw]at h;subst h;exact⟨by omega,fun _ _=>rfl⟩
 ·rw[zL6]at h;exact⟨by omega,fun j hj=>h.2 j Kb⟩
theorem zE6 (hk:q.length=k+1):zX q p≠0 ↔ k<p.length/\(∀j,j<k->iAt q j=iAt p j)/\iAt q k<=iAt p k:=by
 constructor
 ·intro h;rcases zAt q p with⟨h0,_⟩|⟨h0,_⟩|⟨h0,_⟩|⟨h0,_⟩
  ·have:=(zIt hk).1 h0;exact⟨this.1,this.2.1,by omega⟩
  ·have:=zJg hk (.inl h0);exact⟨this.1,fun j hj=>this.2 j Kb,by have:=this.2 k Kb;omega⟩
  ·have:=zJg hk (.inr h0);exact⟨this.1,fun j hj=>this.2 j Kb,by have:=this.2 k Kb;omega⟩
  ·exact absurd h0 h
 ·rintro⟨h1,h2,h3⟩ h0;have g1:zX q p≠1:=Kb;have g2:zX q p≠2:=Kb;have g3:zX q p≠3:=Kb;rw[Ne,zIt hk]at g1;have e:iAt q k=iAt p k:=by
   rcases Int.lt_or_le (iAt q k) (iAt p k)with h|h
   ·exact absurd ⟨h1,h2,h⟩ g1
   ·omega
  have ea:∀j,j<k+1->iAt q j=iAt p j:=fun j hj=>by
   rcases(show j<k∨j=k by omega)with h|rfl
   ·exact h2 j h
   ·exact e
  rcases(show k+1=p.length∨k+1<p.length by omega)with h|h
  ·rw[Ne,zCw]at g2;exact g2 (zL1 Kb (fun j hj=>ea j Kb))
  ·rw[Ne,zL6]at g3;exact g3 ⟨by omega,fun j hj=>ea j Kb⟩
theorem zF4 (q p:List Int):zX q p=0∨zX q p=1∨zX q p=2∨zX q p=3:=by
 rcases zAt q p with⟨h,_⟩|⟨h,_⟩|⟨h,_⟩|⟨h,_⟩<;>omega
theorem zOv (l:List Int)(k:Nat)(v:Int):plusL l k [v]=addL l k v:=rfl
theorem plus2 (l:List Int)(k:Nat)(v u:Int):plusL l k [v,u]=addL (addL l k v) (k+1) u:=rfl
theorem kFe (hk:q.length=k+1):jH 1 q 0 p=(if zX q p=0 then p else addL p k 1,true):=by
 unfold jH;rw[if_neg Kb,if_pos rfl,hk];split<;>rfl
theorem zQs (hk:q.length=k+1):jH 2 q 0 p=if zX q p=0 then(p,true)else if zX q p=1 then(addL p k (-1),true)else noR:=by
 unfold jH;rw[if_neg Kb,if_neg Kd,if_pos rfl,hk];rfl
theorem kCp (hk:q.length=k+1)(hq:jI q=true):zBg q=(addL q k 1,0):=by
 have q0:=(zDf q).1 hq k Kb;have hl:lastL q=iAt q k:=by rw[lastL,hk,Nat.add_sub_cancel]
 unfold zBg;rw[if_neg Kb,hl,if_neg Kb];unfold sib addL;rw[hk,Nat.add_sub_cancel]
theorem zHi (x:Int)(q:List Int):zX (x::q) []=0:=by
 rcases Classical.em (zX (x::q) []=0)with h|h
 ·exact h
 ·have:=((zE6 (k:=q.length) Kc).1 h).1;simp at this
theorem zF5 (x:Int)(q:List Int)(y:Int)(p:List Int)(hq:q≠[]):zX (x::q) (y::p)=if x=y then zX q p else 0:=by
 obtain⟨k,hk⟩:∃k,q.length=k+1:=⟨q.length-1,by have:=List.length_pos_iff.2 hq;omega⟩;by_cases e:x=y
 ·subst e;rw[if_pos rfl];unfold zX;have e1:zFg (x::q) (x::p)=zFg q p:=by
   unfold zFg;simp[kO,iAt]
  have e2:zEd (x::q) (x::p)=zEd q p:=by unfold zEd;simp
  rw[e1,e2,zIs]
 ·rw[if_neg e];rcases Classical.em (zX (x::q) (y::p)=0)with h|h
  ·exact h
  ·have:=((zE6 (k:=k+1) (by simp[hk])).1 h).2.1 0 Kb;simp[iAt]at this;exact absurd this e
theorem zL2 (x y:Int)(p:List Int):(zX [x] (y::p)=0 ↔ y<x)/\(zX [x] (y::p)=1 ↔ x<y):=by
 have h1:=zE6 (q:=[x]) (p:=y::p) (k:=0) rfl;have h2:=zIt (q:=[x]) (p:=y::p) (k:=0) rfl;simp[iAt]at h1 h2;exact⟨⟨fun h=>by omega,fun h=>by omega⟩,h2⟩
theorem jD {x:List Int}(h:jF K q t pos p=(x,true))(hK:K≠5):jH K q pos p=(x,true):=by
 unfold jF at h;split at h
 ·rw[if_neg (fun h=>hK h.1)]at h;exact h
 ·cases h
theorem zJc (hK:K=1∨K=2):jH K q pos p=jH K q 0 p:=by rcases hK with rfl|rfl<;>rfl
theorem zL7 :(jH K q pos p).1.length<=p.length:=by
 unfold jH;repeat' split
 all_goals simp[noR,zJf]
theorem zQy :(jF K q t pos p).1.length<=p.length+t.length:=by
 unfold jF;split
 ·split
  ·split
   ·simp;omega
   ·have h1:=zL7 (K:=1) (pos:=0) (q:=t) (p:=(jH 2 q 0 p).1);have h2:=zL7 (K:=2) (pos:=0) (q:=q) (p:=p);omega
  ·have:=zL7 (K:=K) (pos:=pos) (q:=q) (p:=p);omega
 ·simp[noR]
structure OpP where
 k:Int
 q:List Int
 t:List Int
 z:Int
 n:NT
 o:List Pr
 w:List Pr
 x:List Int
 f:Sl
 g:Sl
def zeroS :Sl:=⟨false,([],0),([],0)⟩
def zeroO :OpP:=⟨0,[],[],0,zeroT,[],[],[],zeroS,zeroS⟩
noncomputable def eqO (a b:OpP):Bool:=@decide (a=b) (Classical.propDecidable _)
theorem kCq (a:OpP):eqO a a=true:=by unfold eqO;exact@decide_eq_true _ (Classical.propDecidable _) rfl
theorem zSw {a b:OpP}(h:a=b):eqO a b=true:=by subst h;exact kCq a
theorem kJz {a b:OpP}(h:a≠b):eqO a b=false:=by unfold eqO;exact@decide_eq_false _ (Classical.propDecidable _) h
theorem kFf {a b:OpP}(h:eqO a b=true):a=b:=by
 rcases Classical.em (a=b)with e|e
 ·exact e
 ·rw[kJz e]at h;cases h
theorem zSx (a b:OpP):eqO a b=true ↔ a=b:=⟨kFf,zSw⟩
theorem zIw (a b:NT):eqT a b=true ↔ a=b:=⟨fun h=>Classical.byContradiction fun e=>(by rw[zUx e]at h;cases h),zPc⟩
theorem zC4 (s t:Sl):zF7 s t=true ↔ s=t:=by
 obtain⟨a,b,c⟩:=s;obtain⟨d,e,f⟩:=t;simp[zF7,samP,and_assoc]
theorem zYw (a b:OpP):eqO a b=(a.k==b.k&&zEd a.q b.q&&zEd a.t b.t&&(a.z==b.z)&&eqT a.n b.n&&decide (a.o=b.o)&&decide (a.w=b.w)&&sameL a.x b.x&&zF7 a.f b.f&&zF7 a.g b.g):=by
 rw[Bool.eq_iff_iff,zSx];simp only[Bool.and_eq_true,beq_iff_eq,zIw,zC4,zEd,sameL,decide_eq_true_iff];obtain⟨a1,a2,a3,a4,a5,a6,a7,a8,a9,Ff⟩:=a;obtain⟨b1,b2,b3,b4,b5,b6,b7,b8,b9,vO⟩:=b;simp only[OpP.mk.injEq,and_assoc]
def zA0 (k:Int):Int:=if k=1 then 2 else if k=2 then 1 else if k=3 then 4 else if k=4 then 3 else if k=5 then 5 else if k=6 then 6 else if k=7 then 8 else if k=8 then 7 else if k=9 then 9 else 0
def kindB (k:Int):Bool:=decide (1<=k)&&decide (k<=9)
theorem zV0 {k:Int}(h:1<=k)(h2:k<=9):k=1∨k=2∨k=3∨k=4∨k=5∨k=6∨k=7∨k=8∨k=9:=Kb
theorem zH7 (k:Int):zA0 k=0 ↔ kindB k=false:=by
 by_cases h1:1<=k
 ·by_cases h2:k<=9
  ·rcases zV0 h1 h2 with rfl|rfl|rfl|rfl|rfl|rfl|rfl|rfl|rfl<;>decide
  ·simp only[zA0,kindB,decide_eq_false h2,Bool.and_false,iff_true];rw[if_neg Kb,if_neg Kb,if_neg Kb,if_neg Kb,if_neg Kb,if_neg Kb,if_neg Kb,if_neg Kb,if_neg Kb]
 ·simp only[zA0,kindB,decide_eq_false h1,Bool.false_and,iff_true];rw[if_neg Kb,if_neg Kb,if_neg Kb,if_neg Kb,if_neg Kb,if_neg Kb,if_neg Kb,if_neg Kb,if_neg Kb]
def jB (o:OpP):OpP:=
 if o.k=1 then{o with q:=[],n:=zeroT}else if o.k=2 then{o with q:=[],n:=zeroT}else if o.k=3 then{o with q:=[],z:=0,o:=[]}else if o.k=4 then{o with q:=[],z:=0,w:=[]}else
 if o.k=5 then{o with q:=[],t:=[]}else if o.k=6 then{o with q:=[],o:=[],w:=[]}else if o.k=7 then{o with q:=[],z:=0,x:=[]}else if o.k=8 then{o with q:=[],z:=0,x:=[]}else if o.k=9 then{o with f:=zeroS,g:=zeroS}else o
def fieldsO (o:OpP):OpP:=
 if o.k=1 then{zeroO with k:=o.k,q:=o.q,n:=o.n}else if o.k=2 then{zeroO with k:=o.k,q:=o.q,n:=o.n}else if o.k=3 then{zeroO with k:=o.k,q:=o.q,z:=o.z,o:=o.o}else if o.k=4 then{zeroO with k:=o.k,q:=o.q,z:=o.z,w:=o.w}else
 if o.k=5 then{zeroO with k:=o.k,q:=o.q,t:=o.t}else if o.k=6 then{zeroO with k:=o.k,q:=o.q,o:=o.o,w:=o.w}else if o.k=7 then{zeroO with k:=o.k,q:=o.q,z:=o.z,x:=o.x}else if o.k=8 then{zeroO with k:=o.k,q:=o.q,z:=o.z,x:=o.x}else if o.k=9 then{zeroO with k:=o.k,f:=o.f,g:=o.g}else{zeroO with k:=o.k,q:=o.q}
noncomputable def bareB (o:OpP):Bool:=eqO o {zeroO with k:=o.k}
noncomputable def zCx (o:OpP):Int:=if zA0 o.k=0 then 1 else if bareB (jB o)=true then 0 else 1
theorem zSy (o:OpP)(h:kindB o.k=true):bareB (jB o)=eqO (fieldsO o) o:=by
 simp only[kindB,Bool.and_eq_true,decide_eq_true_iff]at h;rw[Bool.eq_iff_iff,bareB,zSx,zSx];obtain⟨k,q,t,z,n,o,w,x,f,g⟩:=o;simp only at h;rcases zV0 h.1 h.2 with rfl|rfl|rfl|rfl|rfl|rfl|rfl|rfl|rfl<;>(constructor<;>(intro h;simp[jB,fieldsO,zeroO]at h⊢;(try simp only[@eq_comm _ zeroS,@eq_comm _ zeroT,@eq_comm _ (0:Int)]at h);simp[h]))
theorem zL8 (o:OpP):zCx o=if(kindB o.k&&eqO (fieldsO o) o)=true then 0 else 1:=by
 unfold zCx;cases h:kindB o.k
 ·rw[if_pos ((zH7 _).2 h)];rfl
 ·rw[if_neg (fun e=>by rw[(zH7 _).1 e]at h;cases h),zSy o h];simp
theorem zSz (o:OpP):zCx o=0∨zCx o=1:=by unfold zCx;split<;>(try split)<;>simp
theorem zOy {o:OpP}(h:zCx o=0):kindB o.k=true/\fieldsO o=o:=by
 rw[zL8]at h;split at h
 ·rename_i hh
  rw[Bool.and_eq_true]at hh;exact⟨hh.1,kFf hh.2⟩
 ·cases h
def zAp (o:OpP):OpP×Int:=
 if o.k=3 then(if(jV o.q).2=0 then({o with k:=4,q:=(jV o.q).1,o:=o.w,w:=o.o},0)else(zeroO,(jV o.q).2))else
 if o.k=4 then(if(zBg o.q).2=0 then({o with k:=3,q:=(zBg o.q).1,o:=o.w,w:=o.o},0)else(zeroO,(zBg o.q).2))else
 if o.k=6 then({o with k:=6,o:=o.w,w:=o.o},0)else if o.k=5 then({o with k:=5,q:=o.t,t:=o.q},0)else if o.k=9 then({o with k:=9,f:=o.g,g:=o.f},0)else({o with k:=zA0 o.k},0)
noncomputable def zGl (o:OpP):OpP×Int:=if zCx o=0 then zAp o else(zeroO,1)
