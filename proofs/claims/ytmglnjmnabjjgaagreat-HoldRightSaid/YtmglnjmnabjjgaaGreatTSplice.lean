import Derived.Test.YtmglnjmnabjjgaaGreatJNTopO
set_option maxRecDepth 100000
namespace Go.Proofs.YtmglnjmnabjjgaaGreat
open Go.RowKit
open Go.WideShapes (add_plain)
variable {d:Nat}{w:World}
theorem zRw (A:Option Addr)(n c k:Nat)(hk:k<=c):∀W:World,(Instr.slice 24 (.slice A n c) none (some (.int .i64 (k:Int))) none).run Tryz.prog W=.ok (.slice A k c) W:=fun W=>by
 have he:Tryz.prog.elem 24=26:=Ka;have hs:∀W,(sizeOf 26).run Tryz.prog W=.ok 4 W:=fun _=>by kernel_rfl
 rw[run_slice_h W 24 A n c (by rw[he];exact Tryz.underlying24) .i64 _ Kb Kb,he,hs];have e:(A.map fun x=>x.add 0)=A:=by
  cases A
  ·rfl
  ·simp[Addr.add]
 simp[Result.andThen,sliced,e]
theorem zKn.drop {B:Nat}{A:Option Addr}{ks:List NT}(h:zKn d w B A ks)(k c:Nat)(hc:ks.length<=c):zKn d w B (if c=k then A else A.map (·.add (k*4))) (ks.drop k):=fun j m hm=>by
 rw[List.getElem?_drop]at hm;have hl:=(List.getElem?_eq_some_iff.1 hm).1;obtain⟨b,o,u,rfl,hb,hn,c0,c1,c2,c3,e,h0,h1,h2,h3⟩:=h _ m hm;rw[if_neg Kb];have e1:o+k*4+j*4=o+(k+j)*4:=Kb;exact⟨b,o+k*4,u,by simp[add_plain],hb,hn,c0,c1,c2,c3,e,by rw[e1];exact h0,by rw[e1];exact h1,by rw[e1];exact h2,by rw[e1];exact h3⟩
theorem zVa (A:Option Addr)(n c k:Nat)(hk:k<=n)(hc:n<=c):∃D:Option Addr,(∀(d:Nat)(w:World)(B:Nat)(ks:List NT),zKn d w B A ks->ks.length=n->zKn d w B D (ks.drop k))/\
  (∀W:World,(Instr.slice 24 (.slice A n c) (some (.int .i64 (k:Int))) none none).run Tryz.prog W=.ok (.slice D (n-k) (c-k)) W):=by
 refine⟨if c=k then A else A.map (·.add (k*4)),fun d w B ks h hx=>h.drop k c Kb,fun W=>?_⟩;have he:Tryz.prog.elem 24=26:=Ka;have hs:∀W,(sizeOf 26).run Tryz.prog W=.ok 4 W:=fun _=>by kernel_rfl
 rw[run_slice_l W 24 A n c (by rw[he];exact Tryz.underlying24) .i64 _ Kb Kb,he,hs];simp[Result.andThen,sliced]
theorem zK7 {ts te:TypeId}{size by_:Nat}(E:zQ7 ts te size by_)(W:World){ops:Array Oper}{rest:List Oper}{o:Oper}{a:Act}{Q:Exit->Act->World->Prop}(hgd:o.guard=none)(s x:Operand)
  (ho:o.op=.call {callee:=.builtin .append,args:=#[s,x],argTypes:=#[ts,ts]})
  (b:Nat) (v:Value) (n:Nat) (k:List Value) (hs:a.eval s=v) (hO:W.ownsRow b te size v n k) (A:Option Addr) (m c B:Nat) (l:List Value) (hx:a.eval x=.slice A m c) (hn:l.length=m*size) (hp:VL W B A l) (h1:∀u ∈ l,u.oneCell'=true)
  (h63:n+m<=maxLen) (hby:(n+m)*by_<=140737488355328) (hb:b<=W.heap.size)
  (hK:∀A' c' w',w'.ownsRow b te size (.slice A' (n+m) c') (n+m) (k++l)->W.grownBy w' v.ownBlock->((Value.slice A' (n+m) c').ownBlock=v.ownBlock∨∃g,(Value.slice A' (n+m) c').ownBlock=some g/\W.heap.size<=g)->wpList Tryz.prog ops Q rest (a.put o.dst (.slice A' (n+m) c')) w'):
  wpList Tryz.prog ops Q (o::rest) a W:=by
 obtain⟨i0,z,hi,hz0,hz1,hz2,hz3⟩:=E.info;have hsz:=E.pos;rcases Nat.eq_zero_or_pos m with hm|hm
 ·subst hm;have hl:l=[]:=List.eq_nil_of_length_eq_zero (by simpa using hn);subst hl;obtain⟨A0,c0,rfl,_⟩:=zC9 hO;refine wpList_plain hgd fun K hK2=>?_;have hrun:=zEp (w:=W) (ty:=o.type) (A:=A) (c:=c) E.under hi hO;unfold Oper.wp execOp;simp only[ho,resolve,invoke,builtin,Sem.run_bind,Sem.run_pure,Result.andThen_ok,List.map_toArray,List.map_cons,List.map_nil,hs,hx,hrun];exact hK2 _ _ (hK A0 c0 W (by simpa using hO) ⟨rfl,rfl,rfl,Nat.le_refl _,fun _ _ _=>rfl⟩ (.inl (by cases A0<;>rfl)))
 ·have hl:0<l.length:=by have:=Nat.mul_pos hm hsz;omega
  obtain⟨b',o',rfl,_,hc⟩:=hp (List.length_pos_iff.1 hl);refine wpList_plain hgd fun K hK2=>?_;refine wp_append_lies W s x ts ho b te i0 z size by_ E.under hi hz0 hz1 hz2 hz3 hsz v n k hs hO ⟨b',o',none⟩ m c l hx hn (fun j u hj=>by rw[add_plain];exact hc j u hj) h1 hm h63 hby hb W.heap.size rfl (fun g cap w' h1 h2 h3 _=>hK2 _ _ (hK _ cap w' h1 h2 ?_));rcases h3 with e|e
  ·exact .inl (by rw[e];rfl)
  ·exact .inr ⟨g,rfl,by omega⟩
structure zGi (Q:Nat->Prop)(d:Nat)(w:World)(OA:Option Addr)(us:List Value)(os:List NT):Prop where
 len:us.length=os.length
 cells:VL w w.heap.size OA (us.flatMap fun u=>u.cells.toList)
 trees:∀(j:Nat)(m:NT),os[j]? =some m->∃u,us[j]? =some u/\zAx Q d w u m
theorem zGi.flat {Q:Nat->Prop}{OA:Option Addr}{us:List Value}{os:List NT}(h:zGi Q d w OA us os):(us.flatMap fun u=>u.cells.toList).length=os.length*4/\∀c ∈ us.flatMap fun u=>u.cells.toList,c.oneCell'=true:=by
 have key:∀u ∈ us,∃lf PA np pc TA nt tc KA nk kc,u=.agg #[.bool lf,.slice PA np pc,.slice TA nt tc,.slice KA nk kc]:=fun u hu=>by
  obtain⟨j,hj,rfl⟩:=List.mem_iff_getElem.1 hu;obtain⟨u',hu',ht⟩:=h.trees j _ (List.getElem?_eq_getElem (by rw[<-h.len];exact hj));rw[List.getElem?_eq_getElem hj]at hu';injection hu' with hu';rw[hu'];cases d with
  |zero=>exact ht.elim
  |succ d=>obtain⟨PA,pc,TA,tc,KA,kc,e,_⟩:=ht;exact⟨_,_,_,_,_,_,_,_,_,_,e⟩
 constructor
 ·rw[<-h.len];have:∀l:List Value,(∀u ∈ l,u.cells.toList.length=4)->(l.flatMap fun u=>u.cells.toList).length=l.length*4:=by
   intro l;induction l with
   |nil=>intro _;rfl
   |cons x r ih=>intro hx;rw[List.flatMap_cons,List.length_append,hx x (List.mem_cons_self ..),ih (fun u hu=>hx u (List.mem_cons_of_mem _ hu)),List.length_cons];omega
  exact this us fun u hu=>by obtain⟨_,_,_,_,_,_,_,_,_,_,rfl⟩:=key u hu;rfl
 ·intro c hc;obtain⟨u,hu,oN⟩:=List.mem_flatMap.1 hc;obtain⟨_,_,_,_,_,_,_,_,_,_,rfl⟩:=key u hu;simp[Value.cells]at oN;rcases oN with rfl|rfl|rfl|rfl<;>rfl
theorem zGi.nil (Q:Nat->Prop)(d:Nat)(w:World)(OA:Option Addr):zGi Q d w OA [] []:=⟨rfl,VL.nil _ _ _,fun j m h=>by simp at h⟩
def kHu (Q:Nat->Prop)(d:Nat)(n:NT)(w:World)(e:Ending)(w':World):Prop:=
 ∃v,e=.returned v/\zAx (fun b=>(Q b∨w.heap.size<=b)/\b<w'.heap.size) d w' v n/\Below w.heap.size w w'
theorem zW0 {P:Nat->Prop}{w4:World}{base cap:Nat}{lf:Bool}{ps:List Pr}{tx:List Int}{PA:Option Addr}{pc:Nat}{TA:Option Addr}{tc:Nat}{cs:Array Value}(hbase:base<=w4.heap.size)(hup:∀b,base<=b->P b)
  (hp:VP (fun b=>P b/\b<w4.heap.size) w4 PA (pv ps)) (ht:VP (fun b=>P b/\b<w4.heap.size) w4 TA (rv tx)) (hcs:cs.size=cap*4) (hcap:cap<=maxLen):
  zNk P w4 base d lf ps tx w4.heap.size PA pc TA tc (.slice (some ⟨w4.heap.size+1,0,none⟩) 0 cap) 0 [] [] ((w4.alloc (.cells #[.bool lf,.slice PA ps.length pc,.slice TA tx.length tc,.slice (some ⟨w4.heap.size+1,0,none⟩) 0 cap] 26)).alloc (.cells cs 26)):=by
 obtain⟨w5,cK⟩:∃w5,w5=w4.alloc (.cells #[.bool lf,.slice PA ps.length pc,.slice TA tx.length tc,.slice (some ⟨w4.heap.size+1,0,none⟩) 0 cap] 26):=⟨_,rfl⟩;have e5:w5.heap.size=w4.heap.size+1:=by rw[cK];simp
 obtain⟨w6,pC⟩:∃w6,w6=w5.alloc (.cells cs 26):=⟨_,rfl⟩;have e6:w6.heap.size=w4.heap.size+2:=by rw[pC];simp;omega
 have b5:Below w4.heap.size w4 w5:=cK▸Kk.alloc Kl _;have b6:Below w4.heap.size w4 w6:=pC▸b5.alloc Kb _;have hrow:w6.ownsRow base 26 4 (.slice (some ⟨w4.heap.size+1,0,none⟩) 0 cap) 0 []:=by
  have:=World.ownsRow_made (base:=base) (e:=26) (size:=4) w5 cs cap Kb hcap hcs;rw[e5,<-pC]at this;exact this
 have h5:w6.heap[w4.heap.size]? =some (.cells #[.bool lf,.slice PA ps.length pc,.slice TA tx.length tc,.slice (some ⟨w4.heap.size+1,0,none⟩) 0 cap] 26 (0,0)):=by
  rw[pC,Below.heap_alloc _ _ _ Kb,cK];exact heap_alloc_new _ _
 rw[<-cK,<-pC];refine⟨b6.mono hbase,hbase,hbase,hup,h5,hrow,rfl,rfl,by simp[Value.ownBlock],?_,?_,fun j m hm=>by simp at hm⟩
 ·exact hp.keep (fun b hb=>⟨hb.1,by omega,by omega,by simp[Value.ownBlock];omega⟩) (fun p hp=>⟨b6.cell hp.2,b6.frozen hp.2⟩)
 ·exact ht.keep (fun b hb=>⟨hb.1,by omega,by omega,by simp[Value.ownBlock];omega⟩) (fun p hp=>⟨b6.cell hp.2,b6.frozen hp.2⟩)
set_option maxHeartbeats 8000000 in
theorem zIe (Q : Nat->Prop)(d:Nat)(w:World)(hQ:∀b,Q b->b<w.heap.size)(v:Value)(n:NT)(i many no oc:Nat)(I M:Int)(hI:I=i)(hM:M=many)(OA:Option Addr)(us:List Value)(os:List NT)(hn:zV d w w.heap.size v n)(hO:zGi Q d w OA us os)(hno:os.length=no)(hi:i+many<=n.ks.length)(hlen:n.ks.length+no<=1759218604441+many):
  Calls Tryz.prog 108 #[v,.int .i64 I,.int .i64 M,.slice OA no oc] w (kHu Q (d+1) (jS n i many os) w):=by
 subst hI hM;obtain⟨d',lf,ps,tx,ks,PA,pc,TA,tc,KA,kc,hd',rfl,rfl,hp,ht,hf,hks⟩:=hn.open_;have hi':i+many<=ks.length:=hi;have hlen':ks.length+no<=1759218604441+many:=hlen;have cj:=hf.2.2.2.1;have hkc:=hf.2.2.2.2.2.2;obtain⟨D,hD,br⟩:=zVa KA ks.length kc (i+many) hi' hkc;have bu:=zRw KA ks.length kc i Kb;have bi:∀W:World,(Instr.slice 24 (.slice KA ks.length kc) (some (.int .i64 ((i:Int)+(many:Int)))) none none).run Tryz.prog W=.ok (.slice D (ks.length-(i+many)) (kc-(i+many))) W:=fun W=>by
  have:=br W;rwa[Int.natCast_add]at this
 have HD:=hd (hD d' w w.heap.size ks hks rfl);have hwr:IntKind.i64.wrap ((i:Int)+(many:Int))=(i:Int)+(many:Int):=IntWalk.i64_in _ Kb;have hdd:d'<=d:=Kb;have bJ:=hd (show zKn d w w.heap.size KA ks from fun k m hm=>by
  obtain⟨b,o,u,e,hb,hn,hc⟩:=hks k m hm;exact⟨b,o,u,e,hb,hn.deep hdd,hc⟩)
 have yM:=hd (show zKn d w w.heap.size D (ks.drop (i+many))from fun k m hm=>by
  obtain⟨b,o,u,e,hb,hn,hc⟩:=HD.o k m hm;exact⟨b,o,u,e,hb,hn.deep hdd,hc⟩)
 obtain⟨nb,hnb⟩:∃nb,nb=ks.length-(i+many):=⟨_,rfl⟩;rw[<-hnb]at bi;have yN:nb+i+many=ks.length:=Kb;obtain⟨cs,hcs,hmk⟩:=zGt zWg (i+no+nb) Kb Kb;simp only[Int.natCast_add]at hmk;have lJ:=hd hcs;have HP:=hd hp;have HT:=hd ht;have HF:=hd hf;have HO:=hd hO;have tB:=hd hno;have HQ:=hd hQ;have vw:=hd (show(ks.drop (i+many)).length=nb by rw[List.length_drop,hnb]);obtain⟨wb,hwb⟩:∃wb,wb=(w.alloc (.cells #[.bool lf,.slice PA ps.length pc,.slice TA tx.length tc,.slice KA ks.length kc] 26)).alloc (.cells #[.bool false,.slice none 0 0,.slice none 0 0,.slice none 0 0] 26):=⟨_,rfl⟩;have ar:=hd (show Below w.heap.size w wb from hwb▸kM Kk Kl);have qf:=hd (show wb.heap.size=w.heap.size+2 by rw[hwb];simp);have dH:=hd (show wb.heap[w.heap.size]? =some (.cells #[.bool lf,.slice PA ps.length pc,.slice TA tx.length tc,.slice KA ks.length kc] 26 (0,0))/\wb.heap[w.heap.size+1]? =some (.cells #[.bool false,.slice none 0 0,.slice none 0 0,.slice none 0 0] 26 (0,0))from hwb▸zBj w _ _ _ _ _ _ _ _ _ _);obtain⟨x0,x1,x2,x3,y0,y1,y2,y3⟩:=zJ dH.o.1;have hlb:w.heap.size+1<wb.heap.size:=lt_of_block dH.o.2;have gb:=fun(w':World)(hb:Below w.heap.size w w')=>hd (zEy (d'+1) w' _ (.mk lf ps tx []) (zV.shut rfl rfl rfl ((HP.o.below hb).more hb.size) ((HT.o.below hb).more hb.size) (show zU0 ps tx.length ([]:List NT).length pc tc 0 from⟨HF.o.1,HF.o.2.1,HF.o.2.2.1,by simp,HF.o.2.2.2.2.1,HF.o.2.2.2.2.2.1,by simp⟩) (KA:=none) (fun k m hm=>by simp at hm)));clear hn hp ht hf hks hO hno hQ hd' hD br HD hi hlen hdd hcs hnb;go_enter Tryz.func108,Tryz.ntmps108
 subst hwb;go_wp2_with fail
 go_quiet(fail)
 obtain⟨P,vz⟩:∃P:Nat->Prop,P=fun b=>Q b∨w.heap.size+2<=b:=⟨_,rfl⟩;have nI:=hd vz;clear vz;have yO:i+no+nb<=1759218604441:=Kb;clear x0 x1 x2 x3 y0 y1 y2 y3;obtain⟨x0,x1,x2,x3,y0,y1,y2,y3⟩:=zJ dH.o.1;go_wp2_with(first|(go_at_call 41;refine Calls.mono (gb _ ((zZ ar.o nq).setCell (by show _<=w.heap.size;exact Nat.le_refl _) _)).o ?_;intro e w4 h4;obtain⟨v4,rfl,dN,hb4⟩:=h4;obtain⟨aM,aK,aN,aL,aU,aV,e4,mH,mI,tC,_⟩:=dN;have e5:v4=.agg #[.bool lf,.slice aM ps.length aK,.slice aN tx.length aL,.slice aU 0 aV]:=e4;clear e4;subst e5))
 have hs3:(((((w.alloc (.cells #[.bool lf,.slice PA ps.length pc,.slice TA tx.length tc,.slice KA ks.length kc] 26)).alloc (.cells #[.bool false,.slice none 0 0,.slice none 0 0,.slice none 0 0] 26)).drewN nq).setCell ⟨w.heap.size,3,none⟩ (.slice none 0 0))).heap.size=w.heap.size+2:=by simp
 have oY:=hb4.size;rw[hs3]at oY hb4 mH mI;have lL:=hd (show w4.heap[w.heap.size+1]? =some (.cells #[.bool false,.slice none 0 0,.slice none 0 0,.slice none 0 0] 26 (0,0))from(hb4.block _ Kb).trans ((Below.heap_setCell _ _ _ _ (by show w.heap.size+1≠w.heap.size;omega)).trans dH.o.2));have vA:=hd (show Below w.heap.size w w4 from((zZ ar.o nq).setCell (by show _<=w.heap.size;exact Nat.le_refl _) _).trans (hb4.mono Kb));have vB:=hd (show ps.length<=aK/\tx.length<=aL from⟨tC.2.2.2.2.1,tC.2.2.2.2.2.1⟩);have kG:=hd (zW0 (P:=P) (w4:=w4) (base:=w.heap.size+2) (d:=d) (cap:=i+no+nb) (lf:=lf) (ps:=ps) (tx:=tx) (PA:=aM) (pc:=aK) (TA:=aN) (tc:=aL) (cs:=cs) Kb (fun b h=>by rw[nI.o];exact .inr h)
  (mH.keep (fun b h=>⟨by rw[nI.o];exact .inr h.1,h.2⟩) (fun _ _=>⟨rfl,rfl⟩)) (mI.keep (fun b h=>⟨by rw[nI.o];exact .inr h.1,h.2⟩) (fun _ _=>⟨rfl,rfl⟩)) lJ.o Kg)
 clear hb4 mH mI tC hs3 x0 x1 x2 x3 y0 y1 y2 y3 bu bi hwr hmk gb dH;go_loopw [41] (fun idx wr=>∃(k:Nat)(vK:Value)(ju:List Value),k<=i/\idx=.int .i64 k/\Kq (zNk P w4 (w.heap.size+2) d lf ps tx w4.heap.size aM aK aN aL vK k ju ((ks.take i).take k) wr)) (fun idx _=>i-(intOf idx).toNat)
 case atStart=>exact⟨0,_,_,Nat.zero_le _,rfl,kG⟩
 case round =>
  obtain⟨k,vK,ju,hk,rfl,HL⟩:=hrel;clear kG;have hbr:=vA.o.trans (HL.o.below.mono Kb);by_cases hlt:k<i
  ·          obtain⟨m,b,o,lf1,cY,dC,cZ,dh,dD,di,dt,dE,kc1,hm,rfl,hbg,cO,c0,c1,c2,c3⟩:=(bJ.o.below hbr).at_ (show k<ks.length by omega)
             have hsz:=hbr.size
             have gf:=HL.o.o
             have fO:=lt_of_block gf
             have HM:=hd hm
             obtain⟨A,cap,rfl,hkc,hcm,_⟩:=zC9 HL.o.row
             obtain⟨p0,p1,p2,p3,g0,g1,g2,g3⟩:=zJ gf
             obtain⟨wk,hwk⟩:∃wk,wk=(wr.alloc (.cells #[.bool lf1,.slice cY dC cZ,.slice dh dD di,.slice dt dE kc1] 26)).drew:=⟨_,rfl⟩
             have hbk:Below wr.heap.size wr wk:=hwk▸(Kk.alloc Kl _).drew
             have HC:=hd (zEy d wk _ m (((cO.more hsz).below hbk).more hbk.size))
             have eZ:=hd hbk
             have gN:=HL.o.apart
             have hbs:=HL.o.bs
             have hbl:=HL.o.below.size
             have lW:=hd (show(ks.take i).take k++[m]=(ks.take i).take (k+1)from((zPd (by rw[List.getElem?_take,if_pos hlt];exact HM.o)).symm))
             obtain⟨i0,hi,hz0,hz1,hz2⟩:=info_parts zJj
             subst hwk
             clear cO hbk hm gf hbr
             go_upto_block 1 with fail
             go_cut [41] (fun s wx=>s=.int .i64 k/\∃(mJ:Value)(fJ:List Value),Kq (zNk P w4 (w.heap.size+2) d lf ps tx w4.heap.size aM aK aN aL mJ (k+1) fJ ((ks.take i).take (k+1)) wx))
             case first=>
              go_wp2_with fail
              go_region_law(first
                |((go_simp;go_at_call 41;refine HC.o.mono ?_;intro e w5 h5;obtain⟨v5,rfl,iG,bv⟩:=h5;obtain⟨lf5,jh,ji,jk,jl,jm,jn,jo,jp,jq,rfl⟩:=(iG.at_ (B:=w5.heap.size) (fun b hb=>hb.2)).val;obtain⟨hs5,dL⟩:=zIk bv;have mK:=hd ((dL w4.heap.size fO).trans HL.o.o);obtain⟨r0,r1,r2,r3,r4,r5,r6,r7⟩:=zJ mK.o;have tD:w4.heap.size<w5.heap.size:=Kb;have dZ:=hd (zG5 HL.o.row dL);have mL:=hd dL;clear dL;have nv:=hd bv;have mg:=hd iG;clear iG bv))
                |((refine step_append_lies _ Ke (.tmp 46) (.tmp 49) _ Ke (w.heap.size+2) 26 i0 _ 4 80 Tryz.underlying24 hi hz0 hz1 hz2 rfl Kb (.slice A (k) cap) (k) (ju.flatMap fun u=>u.cells.toList) (by first|rfl|simp[Act.eval]) (dZ.o.alloc _) ⟨w5.heap.size,0,none⟩ 1 1 [.bool lf5,.slice jh ji jk,.slice jl jm jn,.slice jo jp jq] (by first|rfl|simp[Act.eval]) Ke (World.news_of_block (cs:=#[.bool lf5,.slice jh ji jk,.slice jl jm jn,.slice jo jp jq]) (t:=26) (fr:=(0,0)) (heap_alloc_new w5 _)) (by simp[Value.oneCell']) Kb Kg Kb Kf (w5.heap.size+1) Kc ?_;intro g6 aT w6 bq aC cD iZ;have fe:=hd (kAr aC mK.o gN);obtain⟨s0,s1,s2,s3,s4,s5,s6,s7⟩:=zJ fe.o;have ja:=lt_of_block fe.o)))
              all_goals
               have HST:=hd (zOh HL.o eZ.o nv.o mg.o aC bq cD)
               rw[lW.o]at HST
               clear aC bq cD s0 s1 s2 s3 s4 s5 s6 s7 r0 r1 r2 r3 r4 r5 r6 r7 dZ mK fe mL nv mg p0 p1 p2 p3 g0 g1 g2 g3 c0 c1 c2 c3
               go_wp2_with fail
               go_meet
               exact⟨rfl,_,_,HST⟩
             case rest=>
              obtain⟨rfl,mJ,fJ,HST⟩:=hcut;clear p0 p1 p2 p3 g0 g1 g2 g3 c0 c1 c2 c3;go_wp2
              go_roundw
              case rel=>exact⟨k+1,mJ,fJ,by omega,by go_num,HST⟩
              case measure=>simp[intOf];omega
  ·obtain rfl : k =i:=Kb;clear hlt;have gY:=HL;rw[List.take_of_length_le (by rw[List.length_take];omega)]at gY;clear HL;obtain⟨A,cap,rfl,yP,yQ,_⟩:=zC9 gY.o.row;have vC:=hd gY.o.row;have vD:=hd (HO.o.cells.below hbr);have ik:=hd HO.o.flat;have tE:=gY.o.bs;have yR:=gY.o.below.size;obtain⟨p0,p1,p2,p3,g0,g1,g2,g3⟩:=zJ gY.o.o;have pD:=hd gY.o.o;have fY:=hd gY.o.apart;have tF:=lt_of_block gY.o.o;have mM:=hd hbr;clear hbr;go_wp2_with(at_builtin;refine zK7 zWg _ rfl (.tmp 54) (.tmp 55) rfl (w.heap.size+2) (.slice A k cap) k (ju.flatMap fun u=>u.cells.toList) rfl vC.o OA no oc w.heap.size (us.flatMap fun u=>u.cells.toList) rfl (by rw[ik.o.1,tB.o]) vD.o ik.o.2 Kg Kb Kb ?_;intro A6 c6 w6 bq aC cD;have fe:=hd ((aC.block w4.heap.size tF (fun e=>fY.o e.symm)).trans pD.o);obtain⟨s0,s1,s2,s3,s4,s5,s6,s7⟩:=zJ fe.o;have ja:=lt_of_block fe.o;have ln:=hd bq;have gZ:=hd aC;have pE:=hd cD;clear bq aC cD)
   have ax:=hd (zOg gY.o (by rw[tB.o]) HO.o.len Kk gZ.o ln.o pE.o (fun j m hj=>by
    obtain⟨u,h1,h2⟩:=HO.o.trees j m hj;refine⟨u,h1,h2.keep (fun b hb=>⟨by rw[nI.o];exact .inl hb,?_,?_,?_⟩) (fun p hp=>⟨mM.o.cell (HQ.o _ hp),mM.o.frozen (HQ.o _ hp)⟩)⟩
    ·have:=HQ.o b hb;have:=mM.o.size;omega
    ·have:=HQ.o b hb;omega
    ·intro e;have:=(gY.o.row.lt b e.symm).1;have:=HQ.o b hb;omega))
   clear ln gZ pE s0 s1 s2 s3 s4 s5 s6 s7 p0 p1 p2 p3 g0 g1 g2 g3 pD vC fe vD ja;obtain⟨wo,hwo⟩:∃wo:World,wo=wr:=⟨_,rfl⟩;subst hwo;obtain⟨uo,vE⟩:∃uo,uo=ju++us:=⟨_,rfl⟩;rw[<-vE]at ax;clear vE;go_loopw [60] (fun idx wr=>∃(k2:Nat)(vK:Value)(ju:List Value),k2<=nb/\idx=.int .i64 k2/\Kq (zNk P w4 (w.heap.size+2) d lf ps tx w4.heap.size aM aK aN aL vK (k+no+k2) ju ((ks.take k++os)++(ks.drop (k+many)).take k2) wr)) (fun idx _=>nb-(intOf idx).toNat)
   case atStart=>exact⟨0,_,uo,Nat.zero_le _,rfl,(by rw[List.take_zero,List.append_nil];exact ax)⟩
   case round =>
    obtain⟨k2,vK,ju,hk2,rfl,HL⟩:=hrel;clear ax;have hbr:=vA.o.trans (HL.o.below.mono Kb);by_cases hlt:k2<nb
    ·          obtain⟨m,b,o,lf1,cY,dC,cZ,dh,dD,di,dt,dE,kc1,hm,rfl,hbg,cO,c0,c1,c2,c3⟩:=(yM.o.below hbr).at_ (show k2<(ks.drop (k+many)).length by rw[vw.o];exact hlt)
               have hsz:=hbr.size
               have gf:=HL.o.o
               have fO:=lt_of_block gf
               have HM:=hd hm
               obtain⟨A,cap,rfl,hkc,hcm,_⟩:=zC9 HL.o.row
               obtain⟨p0,p1,p2,p3,g0,g1,g2,g3⟩:=zJ gf
               obtain⟨wk,hwk⟩:∃wk,wk=(wr.alloc (.cells #[.bool lf1,.slice cY dC cZ,.slice dh dD di,.slice dt dE kc1] 26)).drew:=⟨_,rfl⟩
               have hbk:Below wr.heap.size wr wk:=hwk▸(Kk.alloc Kl _).drew
               have HC:=hd (zEy d wk _ m (((cO.more hsz).below hbk).more hbk.size))
               have eZ:=hd hbk
               have gN:=HL.o.apart
               have hbs:=HL.o.bs
               have hbl:=HL.o.below.size
               have lW:=hd (show(ks.take k++os)++(ks.drop (k+many)).take k2++[m]=(ks.take k++os)++(ks.drop (k+many)).take (k2+1)from(by rw[List.append_assoc,<-zPd HM.o]))
               obtain⟨i0,hi,hz0,hz1,hz2⟩:=info_parts zJj
               subst hwk
               clear cO hbk hm gf hbr
               go_upto_block 3 with fail
               go_cut [60] (fun s wx=>s=.int .i64 k2/\∃(mJ:Value)(fJ:List Value),Kq (zNk P w4 (w.heap.size+2) d lf ps tx w4.heap.size aM aK aN aL mJ (k+no+k2+1) fJ ((ks.take k++os)++(ks.drop (k+many)).take (k2+1)) wx))
               case first=>
                go_wp2_with fail
                go_region_law(first
                  |((go_simp;go_at_call 41;refine HC.o.mono ?_;intro e w5 h5;obtain⟨v5,rfl,iG,bv⟩:=h5;obtain⟨lf5,jh,ji,jk,jl,jm,jn,jo,jp,jq,rfl⟩:=(iG.at_ (B:=w5.heap.size) (fun b hb=>hb.2)).val;obtain⟨hs5,dL⟩:=zIk bv;have mK:=hd ((dL w4.heap.size fO).trans HL.o.o);obtain⟨r0,r1,r2,r3,r4,r5,r6,r7⟩:=zJ mK.o;have tD:w4.heap.size<w5.heap.size:=Kb;have dZ:=hd (zG5 HL.o.row dL);have mL:=hd dL;clear dL;have nv:=hd bv;have mg:=hd iG;clear iG bv))
                  |((refine step_append_lies _ Ke (.tmp 65) (.tmp 68) _ Ke (w.heap.size+2) 26 i0 _ 4 80 Tryz.underlying24 hi hz0 hz1 hz2 rfl Kb (.slice A (k+no+k2) cap) (k+no+k2) (ju.flatMap fun u=>u.cells.toList) (by first|rfl|simp[Act.eval]) (dZ.o.alloc _) ⟨w5.heap.size,0,none⟩ 1 1 [.bool lf5,.slice jh ji jk,.slice jl jm jn,.slice jo jp jq] (by first|rfl|simp[Act.eval]) Ke (World.news_of_block (cs:=#[.bool lf5,.slice jh ji jk,.slice jl jm jn,.slice jo jp jq]) (t:=26) (fr:=(0,0)) (heap_alloc_new w5 _)) (by simp[Value.oneCell']) Kb Kg Kb Kf (w5.heap.size+1) Kc ?_;intro g6 aT w6 bq aC cD iZ;have fe:=hd (kAr aC mK.o gN);obtain⟨s0,s1,s2,s3,s4,s5,s6,s7⟩:=zJ fe.o;have ja:=lt_of_block fe.o)))
                all_goals
                 have HST:=hd (zOh HL.o eZ.o nv.o mg.o aC bq cD)
                 rw[lW.o]at HST
                 clear aC bq cD s0 s1 s2 s3 s4 s5 s6 s7 r0 r1 r2 r3 r4 r5 r6 r7 dZ mK fe mL nv mg p0 p1 p2 p3 g0 g1 g2 g3 c0 c1 c2 c3
                 go_wp2_with fail
                 go_meet
                 exact⟨rfl,_,_,HST⟩
               case rest=>
                obtain⟨rfl,mJ,fJ,HST⟩:=hcut;clear p0 p1 p2 p3 g0 g1 g2 g3 c0 c1 c2 c3;go_wp2
                go_roundw
                case rel=>exact⟨k2+1,mJ,fJ,by omega,by go_num,HST⟩
                case measure=>simp[intOf];omega
    ·obtain rfl:k2=nb:=Kb;have lj:=HL;rw[List.take_of_length_le (l:=ks.drop (k+many)) (by rw[vw.o];exact Nat.le_refl _)]at lj;clear HL;have gP:=lj.o.o;have rR:=lt_of_block gP;obtain⟨A8,pF,rfl,_⟩:=zC9 lj.o.row;obtain⟨p0,p1,p2,p3,_,_,_,_⟩:=zJ gP;clear gP;have hres:wr.heap[w.heap.size+1]? =some (.cells #[.bool false,.slice none 0 0,.slice none 0 0,.slice none 0 0] 26):=(lj.o.below.block _ Kb).trans lL.o;obtain⟨q0,q1,q2,q3,q4,q5,q6,q7⟩:=zJ hres;have rS:=hd hres;have cu:=hd hbr;clear hres hbr;go_wp2
     have h7:=kD (a:=.bool lf) (b:=.slice aM ps.length aK) (c:=.slice aN tx.length aL) (d:=.slice A8 (k+no+k2) pF) rS.o;obtain⟨t0,t1,t2,t3,_,_,_,_⟩:=zJ h7;have hfit:zIo ps/\ps.length<=4398046511104/\tx.length<=35184372088832/\(ks.take k++os++ks.drop (k+many)).length<=1759218604441/\ps.length<=aK/\tx.length<=aL:=
      ⟨HF.o.1,HF.o.2.1,HF.o.2.2.1,by have:=tB.o;simp only[List.length_append,List.length_take,List.length_drop];omega,vB.o.1,vB.o.2⟩
     have hend:=fun w7 hs h7=>(kAq (w7:=w7) lj.o hfit hs h7).tree;refine bodyPost_ret (v:=.agg #[.bool lf,.slice aM ps.length aK,.slice aN tx.length aL,.slice A8 (k+no+k2) pF]) (by simp[results,Tryz.results108,go_sem,t0,t1,t2,t3]) rfl ⟨_,rfl,(hend _ Kc (fun b hb _=>?_)).keep (fun b hb=>?_) (fun _ _=>⟨rfl,rfl⟩),?_⟩
     ·rw[nI.o]at hb;have:b≠w.heap.size+1:=by
       rcases hb with h|h
       ·have:=HQ.o b h;omega
       ·omega
      iterate 4 rw[Below.heap_setCell _ _ _ _ (by show b≠w.heap.size+1;exact this)]
     ·obtain⟨h1,h2⟩:=hb;rw[nI.o]at h1;rcases h1 with h|h
      ·exact⟨.inl h,h2⟩
      ·exact⟨.inr Kb,h2⟩
     ·exact(((cu.o.setCell (by show _<=w.heap.size+1;omega) _).setCell (by show _<=w.heap.size+1;omega) _).setCell (by show _<=w.heap.size+1;omega) _).setCell (by show _<=w.heap.size+1;omega) _
