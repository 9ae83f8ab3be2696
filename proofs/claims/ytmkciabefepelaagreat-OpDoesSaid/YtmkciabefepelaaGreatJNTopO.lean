import Derived.Test.YtmkciabefepelaaGreatJTBuild
set_option maxRecDepth 100000
set_option maxHeartbeats 8000000
namespace Go.Proofs.YtmkciabefepelaaGreat
open Go.RowKit
open Go.WideShapes (add_plain)
variable {w w' w3 wr:World}{base' cap cp d g gO gk:Nat}{t:TypeId}{v:Value}{n:NT}{us xs:List Value}{cs:Array Value}{fr:Nat×Nat}{gp gt:Option Addr}{e:Ending}
theorem zBy {base:Nat}{size:Nat}{n:Nat}(h:w.ownsRow base t size v n xs)(hb:base'<=base):w.ownsRow base' t size v n xs:=by
 refine⟨h.1,?_⟩;rcases h.2 with e|⟨g,cap,cur,e,hg,rest⟩
 ·exact .inl e
 ·exact .inr ⟨g,cap,cur,e,by omega,rest⟩
def zGj (w w':World):Prop:=∀b,b<w.heap.size->(∀cs fr,w.heap[b]? ≠some (.cells cs 26 fr))->w'.heap[b]? =w.heap[b]?
theorem zCs {base:Nat}{size:Nat}{n:Nat}(h:w.ownsRow base t size v n xs)(ht:t≠26)(hk:zGj w w'):w'.ownsRow base t size v n xs:=by
 refine⟨h.1,?_⟩;rcases h.2 with e|⟨g,cap,cur,e,hg,hh,rest⟩
 ·exact .inl e
 ·refine .inr ⟨g,cap,cur,e,hg,(hk g (lt_of_block hh) fun cs fr e2=>?_).trans hh,rest⟩;rw[hh]at e2;injection e2 with e2;injection e2 with _ e3;exact ht e3
theorem zGj.of_below (h:Below w.heap.size w w'):zGj w w':=fun b hb _=>h.block b hb
theorem zGj.of_but (hg:w.heap[g]? =some (.cells cs 26 fr))(h:∀b,b≠g->b<w.heap.size->w'.heap[b]? =w.heap[b]?):zGj w w':=fun b hb hn=>h b (fun e=>hn cs fr (e▸hg)) hb
structure PT (w:World)(base:Nat)(gp:Option Addr)(cp:Nat)(gt:Option Addr)(ct:Nat)(ps:List Pr)(tx:List Int):Prop where
 p:w.ownsRow base 94 2 (.slice gp ps.length cp) ps.length (pv ps)
 t:w.ownsRow base 21 1 (.slice gt tx.length ct) tx.length (rv tx)
theorem PT.keep {base:Nat}{ct:Nat}{ps:List Pr}{tx:List Int}(h:PT w base gp cp gt ct ps tx)(hk:zGj w w'):PT w' base gp cp gt ct ps tx:=
 ⟨zCs h.p Kd hk,zCs h.t Kd hk⟩
def zVd (t:TypeId)(size n:Nat)(xs:List Value)(w:World)(e:Ending)(w':World):Prop:=
 ∃g c,e=.returned (.slice (some ⟨g,0,none⟩) n c)/\w'.ownsRow w.heap.size t size (.slice (some ⟨g,0,none⟩) n c) n xs/\Below w.heap.size w w'
theorem zVd.vp {size n:Nat}(h:zVd t size n xs w e w'):∃g c,e=.returned (.slice (some ⟨g,0,none⟩) n c)/\VP (fun b=>w.heap.size<=b/\b<w'.heap.size) w' (some ⟨g,0,none⟩) xs/\Below w.heap.size w w'/\n<=c/\w'.ownsRow w.heap.size t size (.slice (some ⟨g,0,none⟩) n c) n xs:=by
 obtain⟨g,c,e,h1,h2⟩:=h;exact⟨g,c,e,zIr h1,h2,zPm h1,h1⟩
theorem zTx (A:Option Addr)(ps:List Pr)(c:Nat)(w:World)(hl:ps.length<=4398046511104)(hp:PL w w.heap.size A ps):Calls Tryz.prog 125 #[.slice A ps.length c] w (zVd 94 2 ps.length (pv ps) w):=by
 obtain⟨cs,hcs,hmk⟩:=zGt zZh ps.length Kb Kb;have hv:VL w w.heap.size A (pv ps):=hp.vl;have HV:=hd hv;have kp:=hd hcs;clear hp hv hcs;go_enter Tryz.func125,Tryz.ntmps125
 go_wp2_with(at_builtin;refine zBr zZh _ rfl (.tmp 5) (.tmp 6) rfl w.heap.size (.slice (some ⟨w.heap.size,0,none⟩) 0 ps.length) 0 [] rfl (World.ownsRow_made w cs ps.length Kl Kg kp.o) A ps.length c w.heap.size (pv ps) rfl (by rw[zN8]<;>omega) (HV.o.below (Kk.alloc Kl _)) (zZg ps) Kg Kb Kc rfl ?_;intro g cap w1 aF hg1)
 go_ret
 rw[Nat.zero_add,List.nil_append]at aF;exact⟨g,cap,rfl,aF,(Kk.alloc Kl _).grown hg1 Kc (fun j hj=>by simp[Value.ownBlock]at hj;omega)⟩
theorem zTy (A:Option Addr)(ps:List Int)(c:Nat)(w:World)(hl:ps.length<=35184372088832)(hp:VL w w.heap.size A (rv ps)):Calls Tryz.prog 126 #[.slice A ps.length c] w (zVd 21 1 ps.length (rv ps) w):=by
 obtain⟨cs,hcs,hmk⟩:=zGt zTa ps.length Kb Kb;have hv:VL w w.heap.size A (rv ps):=hp;have HV:=hd hv;have kp:=hd hcs;clear hp hv hcs;go_enter Tryz.func126,Tryz.ntmps126
 go_wp2_with(at_builtin;refine zBr zTa _ rfl (.tmp 5) (.tmp 6) rfl w.heap.size (.slice (some ⟨w.heap.size,0,none⟩) 0 ps.length) 0 [] rfl (World.ownsRow_made w cs ps.length Kl Kg kp.o) A ps.length c w.heap.size (rv ps) rfl (by rw[zCg]<;>omega) (HV.o.below (Kk.alloc Kl _)) (zNz ps) Kg Kb Kc rfl ?_;intro g cap w1 aF hg1)
 go_ret
 rw[Nat.zero_add,List.nil_append]at aF;exact⟨g,cap,rfl,aF,(Kk.alloc Kl _).grown hg1 Kc (fun j hj=>by simp[Value.ownBlock]at hj;omega)⟩
def zTz (base d:Nat)(w:World)(v:Value)(n:NT):Prop:=
 ∃(PA:Option Addr)(pc:Nat)(TA:Option Addr)(tc:Nat)(KA:Option Addr)(kc:Nat)(us:List Value),v=.agg #[.bool n.lf,.slice PA n.ps.length pc,.slice TA n.tx.length tc,.slice KA n.ks.length kc]/\w.ownsRow base 94 2 (.slice PA n.ps.length pc) n.ps.length (pv n.ps)/\w.ownsRow base 21 1 (.slice TA n.tx.length tc) n.tx.length (rv n.tx)/\
  w.ownsRow base 26 4 (.slice KA n.ks.length kc) n.ks.length (zGg us)/\zU0 n.ps n.tx.length n.ks.length pc tc kc/\us.length=n.ks.length/\∀(j:Nat)(m:NT),n.ks[j]? =some m->∃u,us[j]? =some u/\zAx (fun b=>base<=b/\b<w.heap.size/\some b≠(Value.slice KA 0 0).ownBlock) d w u m
theorem zTz.base {base:Nat}(h:zTz base d w v n)(hb:base'<=base):zTz base' d w v n:=by
 obtain⟨PA,pc,TA,tc,KA,kc,us,e,hp,ht,hk,hf,hl,hks⟩:=h;exact⟨PA,pc,TA,tc,KA,kc,us,e,zBy hp hb,zBy ht hb,zBy hk hb,hf,hl,fun j m hm=>by
  obtain⟨u,h1,h2⟩:=hks j m hm;exact⟨u,h1,h2.keep (fun b hb2=>⟨by omega,hb2.2⟩) (fun _ _=>⟨rfl,rfl⟩)⟩⟩
theorem zA8 {base:Nat}{size:Nat}{n:Nat}(h:w.ownsRow base t size v n xs)(hk:∀b,base<=b->b<w.heap.size->w'.heap[b]? =w.heap[b]?):w'.ownsRow base t size v n xs:=by
 refine⟨h.1,?_⟩;rcases h.2 with e|⟨g,cap,cur,e,hg,hh,rest⟩
 ·exact .inl e
 ·exact .inr ⟨g,cap,cur,e,hg,(hk g hg (lt_of_block hh)).trans hh,rest⟩
theorem zTz.keep {base:Nat}(h:zTz base d w v n)(hs:w.heap.size<=w'.heap.size)(hk:∀b,base<=b->b<w.heap.size->w'.heap[b]? =w.heap[b]?):zTz base d w' v n:=by
 obtain⟨PA,pc,TA,tc,KA,kc,us,e,hp,ht,hkk,hf,hl,hks⟩:=h;exact⟨PA,pc,TA,tc,KA,kc,us,e,zA8 hp hk,zA8 ht hk,zA8 hkk hk,hf,hl,fun j m hm=>by
  obtain⟨u,h1,h2⟩:=hks j m hm;exact⟨u,h1,h2.keep (fun b hb2=>⟨hb2.1,by omega,hb2.2.2⟩) (fun p hp=>⟨World.cell?_of_block (hk _ hp.1 hp.2.1),World.frozen?_of_block (hk _ hp.1 hp.2.1)⟩)⟩⟩
theorem zTz.val {base:Nat}(h:zTz base d w v n):∃lf PA np pc TA nt tc KA nk kc,v=.agg #[.bool lf,.slice PA np pc,.slice TA nt tc,.slice KA nk kc]:=by
 obtain⟨PA,pc,TA,tc,KA,kc,us,e,_⟩:=h;exact⟨_,_,_,_,_,_,_,_,_,_,e⟩
theorem zTz.tree {base:Nat}(h:zTz base d w v n):zAx (fun b=>base<=b/\b<w.heap.size) (d+1) w v n:=by
 obtain⟨PA,pc,TA,tc,KA,kc,us,e,hp,ht,hkk,hf,hl,hks⟩:=h;refine⟨PA,pc,TA,tc,KA,kc,e,zIr hp,zIr ht,hf,fun k m hm=>?_⟩;have hfree:=zIr hkk;have h4:∀x ∈ us,x.cells.size=4:=fun x hx=>by
  obtain⟨j,hj,rfl⟩:=List.mem_iff_getElem.1 hx;obtain⟨u,hu,ht⟩:=hks j _ (List.getElem?_eq_getElem (by rw[<-hl];exact hj));rw[List.getElem?_eq_getElem hj]at hu;injection hu with hu;obtain⟨c0,c1,c2,c3,e⟩:=ht.four;rw[hu,e];rfl
 obtain⟨u,hu,htr⟩:=hks k m hm;obtain⟨c0,c1,c2,c3,e4⟩:=htr.four;have hc:=fun i c hi=>hfree (k*4+i) c (zJ5 us k u c0 c1 c2 c3 h4 hu e4 i c hi);obtain⟨g,o,hg,hgb,hc0⟩:=hc 0 c0 rfl;subst hg;have hc':∀i c,[c0,c1,c2,c3][i]? =some c->kKa w g (o+(k*4+i)) c:=fun i c hi=>by
  obtain⟨g',o',e',_,h5⟩:=hc i c hi;injection e' with e';injection e' with e1 e2;subst e1 e2;exact h5
 refine⟨g,o,u,rfl,hgb,htr.keep (fun b hb=>⟨hb.1,hb.2.1⟩) (fun _ _=>⟨rfl,rfl⟩),⟨c0,c1,c2,c3,e4,?_,?_,?_,?_⟩,?_⟩
 ·exact(hc' 0 c0 rfl).1
 ·exact(hc' 1 c1 rfl).1
 ·exact(hc' 2 c2 rfl).1
 ·exact(hc' 3 c3 rfl).1
 ·exact(hc' 0 c0 rfl).2
def zPu (d:Nat)(n:NT)(w:World)(e:Ending)(w':World):Prop:=
 ∃v,e=.returned v/\zTz w.heap.size d w' v n/\Below w.heap.size w w'
theorem zPu.copied (h:zPu d n w e w'):zVf (d+1) n w e w':=by
 obtain⟨v,h1,h2,h3⟩:=h;exact⟨v,h1,h2.tree,h3⟩
def kFt (w:World)(lf:Bool)(ps:List Pr)(tx:List Int)(kids:Value)(s4:Value)(wx:World):Prop:=
 ∃gO gp cp gt ct,s4=.pointer (some ⟨gO,0,none⟩)/\Below w.heap.size w wx/\wx.heap[w.heap.size+1]? =some (.cells #[.bool false,.slice none 0 0,.slice none 0 0,.slice none 0 0] 26)/\w.heap.size+2<=gO/\wx.cell? ⟨w.heap.size,3,none⟩=some kids/\
  wx.heap[gO]? =some (.cells #[.bool lf,.slice (some ⟨gp,0,none⟩) ps.length cp,.slice (some ⟨gt,0,none⟩) tx.length ct,.slice none 0 0] 26 (0,0))/\
  VP (fun b=>w.heap.size+2<=b/\b<wx.heap.size/\b≠gO) wx (some ⟨gp,0,none⟩) (pv ps)/\VP (fun b=>w.heap.size+2<=b/\b<wx.heap.size/\b≠gO) wx (some ⟨gt,0,none⟩) (rv tx)/\ps.length<=cp/\tx.length<=ct/\PT wx (w.heap.size+2) (some ⟨gp,0,none⟩) cp (some ⟨gt,0,none⟩) ct ps tx
theorem zNb {lf:Bool}{ps:List Pr}{tx:List Int}{kids s4:Value}{wx:World}{gp gt ct:Nat}{k0:Value}(h:kEw w lf ps tx kids s4 wx)(e:s4=.pointer (some ⟨gO,0,none⟩))(hO:wx.heap[gO]? =some (.cells #[.bool lf,.slice (some ⟨gp,0,none⟩) ps.length cp,.slice (some ⟨gt,0,none⟩) tx.length ct,k0] 26 fr))(hpt:PT w3 (w.heap.size+2) (some ⟨gp,0,none⟩) cp (some ⟨gt,0,none⟩) ct ps tx)(hk:zGj w3 wx):kFt w lf ps tx kids s4 wx:=by
 obtain⟨gO',gp',cp',gt',ct',e',h2,h3,h4,h5,h6,h7,h8,h9,h10⟩:=h;have eO:gO'=gO:=by rw[e]at e';injection e' with e';injection e' with e';injection e' with e';exact e'.symm
 subst eO;rw[hO]at h6;simp only[Option.some.injEq,Obj.cells.injEq,Array.mk.injEq,List.cons.injEq,Value.slice.injEq,Addr.mk.injEq,and_true,true_and]at h6;obtain⟨⟨⟨e1,e2⟩,⟨e3,e4⟩,e5⟩,e6⟩:=h6;subst e1 e2 e3 e4 e5 e6;exact⟨_,_,_,_,_,e,h2,h3,h4,h5,hO,h7,h8,h9,h10,hpt.keep hk⟩
theorem zT0 {W W' w2:World}{ps:List Pr}{tx:List Int}{ct:Nat}(op:w2.ownsRow W.heap.size 94 2 (.slice gp ps.length cp) ps.length (pv ps))(ot:w3.ownsRow W'.heap.size 21 1 (.slice gt tx.length ct) tx.length (rv tx))(hb:Below w2.heap.size w2 w3)(hW:w.heap.size+2<=W.heap.size)(hW':w.heap.size+2<=W'.heap.size):PT w3 (w.heap.size+2) gp cp gt ct ps tx:=
 ⟨zBy (zA8 op fun b _ hl=>hb.block b hl) hW,zBy ot hW'⟩
theorem zOj {a b c d:Value}(h:w.heap[g]? =some (.cells cs 26 fr)):zGj w ((((w.setCell ⟨g,0,none⟩ a).setCell ⟨g,1,none⟩ b).setCell ⟨g,2,none⟩ c).setCell ⟨g,3,none⟩ d):=
 zGj.of_but h fun k hk _=>by iterate 4 rw[Below.heap_setCell _ _ _ _ (by simpa using hk)]
structure zGk (w:World)(d:Nat)(lf:Bool)(ps:List Pr)(tx:List Int)(ks:List NT)(gO gp cp gt ct k gk cap:Nat)(us:List Value)(wr:World):Prop where
 loop:zFs w d lf ps tx ks gO gp cp gt ct k gk cap us wr
 pt:PT wr (w.heap.size+2) (some ⟨gp,0,none⟩) cp (some ⟨gt,0,none⟩) ct ps tx
theorem zGj.trans {a b c:World}(h:zGj a b)(k:zGj b c)(hs:a.heap.size<=b.heap.size):zGj a c:=fun x hx hn=>by
 have h1:=h x hx hn;exact(k x Kb (fun cs fr e=>hn cs fr (h1.symm.trans e))).trans h1
theorem zXc {w4 w6:World}{lf:Bool}{ps:List Pr}{tx:List Int}{ks:List NT}{gp gt ct k g6 bZ:Nat}{eD:List Value}{o o1:Obj}{x:Value}(h:zGk w d lf ps tx ks gO gp cp gt ct k gk cap us wr)
  (hb4:Below (wr.alloc o).drew.heap.size (wr.alloc o).drew w4) (hgrow:(w4.alloc o1).grownBy w6 (some gk)) (hst:zFs w d lf ps tx ks gO gp cp gt ct (k+1) g6 bZ eD (w6.setCell ⟨gO,3,none⟩ x)):zGk w d lf ps tx ks gO gp cp gt ct (k+1) g6 bZ eD (w6.setCell ⟨gO,3,none⟩ x):=by
 refine⟨hst,h.pt.keep fun b hb hn=>?_⟩;obtain⟨hs4,cD⟩:=zIk hb4;have e5:(w4.alloc o1).heap.size=w4.heap.size+1:=sz1;have hne:b≠gO:=fun e=>hn _ _ (e▸h.loop.o);have fG:b≠gk:=fun e=>by
  rcases h.loop.row.2 with⟨e1,_⟩|⟨g',cap',cur,e1,_,hh,_⟩
  ·cases e1
  ·injection e1 with e1;injection e1 with e1;injection e1 with e1;exact hn _ _ (e▸e1▸hh)
 rw[Below.heap_setCell _ _ _ _ (by simpa using hne),hgrow.block b (by rw[e5];omega) (by intro e;injection e with e;exact fG e),Below.heap_alloc _ _ _ Kb,cD b hb]
theorem kA3 {w7:World}{lf:Bool}{ps:List Pr}{tx:List Int}{ks:List NT}{gp gt ct:Nat}(hh:zGk w d lf ps tx ks gO gp cp gt ct ks.length gk cap us wr)(hf:zIo ps/\ps.length<=4398046511104/\tx.length<=35184372088832/\ks.length<=1759218604441/\ps.length<=cp/\tx.length<=ct)(hs:wr.heap.size<=w7.heap.size)
  (h7:∀b,b≠w.heap.size+1->w7.heap[b]? =wr.heap[b]?):
  zTz w.heap.size d w7 (.agg #[.bool lf,.slice (some ⟨gp,0,none⟩) ps.length cp,.slice (some ⟨gt,0,none⟩) tx.length ct,.slice (some ⟨gk,0,none⟩) ks.length cap]) (.mk lf ps tx ks):=by
 have h:=hh.loop;have oC:∀b,w.heap.size+2<=b->b<wr.heap.size->w7.heap[b]? =wr.heap[b]? :=fun b h1 _=>h7 b Kb;have hrow:=zA8 h.row oC;refine⟨_,_,_,_,_,_,us,rfl,zBy (zA8 hh.pt.p oC) Kb,zBy (zA8 hh.pt.t oC) Kb,zBy hrow Kb,⟨hf.1,hf.2.1,hf.2.2.1,hf.2.2.2.1,hf.2.2.2.2.1,hf.2.2.2.2.2,zPm hrow⟩,h.len,fun j m hm=>?_⟩;obtain⟨u,hu,ht⟩:=h.kids j m (List.getElem?_eq_some_iff.1 hm).1 hm;exact⟨u,hu,ht.keep (fun b hb=>⟨by omega,by omega,fun e=>by injection e with e;exact hb.2.2.2 e⟩) (fun p hp=>⟨World.cell?_of_block (h7 _ Kb),World.frozen?_of_block (h7 _ Kb)⟩)⟩
theorem zV1 (g:Nat):∀(d:Nat)(w:World)(v:Value)(n:NT),w.cell? ⟨g,0,none⟩=some (.func (.func 124) #[] #[.pointer (some ⟨g,0,none⟩)])->zV d w w.heap.size v n->
      Calls Tryz.prog 124 #[v,.pointer (some ⟨g,0,none⟩)] w (zPu (d-1) n w):=by
 intro d;induction d with
 |zero=>intro w v n _ h;exact h.elim
 | succ d ih=>
  have ih2:∀(w:World)(v:Value)(n:NT),w.cell? ⟨g,0,none⟩=some (.func (.func 124) #[] #[.pointer (some ⟨g,0,none⟩)])->zV d w w.heap.size v n->Calls Tryz.prog 124 #[v,.pointer (some ⟨g,0,none⟩)] w (zVf d n w):=by
   intro w v n h1 h2;cases d with
   |zero=>exact h2.elim
   |succ d0=>exact(ih w v n h1 h2).mono fun e w' hh=>hh.copied
  clear ih;intro w v n hg hn;obtain⟨d1,lf,ps,tx,ks,PA,pc,TA,tc,KA,kc,hd1,rfl,rfl,hp,ht,hf,hks⟩:=hn.open_;obtain rfl:d=d1:=Kb;obtain⟨wb,hwb⟩:∃wb,wb=(w.alloc (.cells #[.bool lf,.slice PA ps.length pc,.slice TA tx.length tc,.slice KA ks.length kc] 26)).alloc (.cells #[.bool false,.slice none 0 0,.slice none 0 0,.slice none 0 0] 26):=⟨_,rfl⟩;have hb1:Below w.heap.size w wb:=hwb▸kM Kk Kl;have X:=(Box.new w (.bool lf) (.slice PA ps.length pc) (.slice TA tx.length tc) (.slice KA ks.length kc) 26).alloc (.cells #[.bool false,.slice none 0 0,.slice none 0 0,.slice none 0 0] 26);rw[<-hwb]at X;have HP:=fun(w':World)(hb0:Below wb.heap.size wb w')=>hd (zTx PA ps pc w' hf.2.1 ((hp.below (hb1.trans (hb0.mono hb1.size))).more (hb1.trans (hb0.mono hb1.size)).size));have HT:=fun(w':World)(hb0:Below wb.heap.size wb w')=>hd (zTy TA tx tc w' hf.2.2.1 ((ht.below (hb1.trans (hb0.mono hb1.size))).more (hb1.trans (hb0.mono hb1.size)).size));have bG:=hd (show wb.heap[w.heap.size+1]? =some (.cells #[.bool false,.slice none 0 0,.slice none 0 0,.slice none 0 0] 26) by rw[hwb,<-sz1 (w:=w) (A:=(.cells #[.bool lf,.slice PA ps.length pc,.slice TA tx.length tc,.slice KA ks.length kc] 26))];exact heap_alloc_new _ _);obtain⟨cs,hcs,hmk⟩:=zGt zWg ks.length (by have:=hf.2.2.2.1;omega) (by have:=hf.2.2.2.1;omega);have kp:=hd hcs;have cv:=hd hks;have HG:=hd hg;have HF:=hd hf;have HB:=hd hb1;have HX:=hd X;have cC:=hf.2.2.2.1;obtain⟨x0,x1,x2,x3⟩:=X;subst hwb;clear hn hp ht hf hks hd1 hb1 hg hcs;go_enter Tryz.func124,Tryz.ntmps124
  go_wp2_with fail
  go_upto_region 1 with fail
  go_cut [4] (fun s4 wx=>kFt w lf ps tx (.slice KA ks.length kc) s4 wx)
  case first=>
   go_region_held3(fun w'=>Below ((w.alloc (.cells #[.bool lf,.slice PA ps.length pc,.slice TA tx.length tc,.slice KA ks.length kc] 26)).alloc (.cells #[.bool false,.slice none 0 0,.slice none 0 0,.slice none 0 0] 26)).heap.size ((w.alloc (.cells #[.bool lf,.slice PA ps.length pc,.slice TA tx.length tc,.slice KA ks.length kc] 26)).alloc (.cells #[.bool false,.slice none 0 0,.slice none 0 0,.slice none 0 0] 26)) w'/\w'.cell? ⟨w.heap.size,0,none⟩=some (.bool lf)/\w'.cell? ⟨w.heap.size,1,none⟩=some (.slice PA ps.length pc)/\w'.cell? ⟨w.heap.size,2,none⟩=some (.slice TA tx.length tc)/\w'.cell? ⟨w.heap.size,3,none⟩=some (.slice KA ks.length kc))
    (first
     |assumption
     |exact⟨Kk.drew,x0,x1,x2,x3⟩
     |exact zXl ‹_› (Kk.alloc Kl _)
     |exact kBg ‹_› Kf (by first|exact rD.1.size|simp))
    (first
     |(go_at_call 125;refine Calls.mono (HP _ ?hh).o ?_;(case hh=>(go_split_ands;assumption));intro e w2 h2;obtain⟨gp,cp,rfl,vp,b2,cT,xA⟩:=h2.vp;have rD:=zXl ‹_› b2;have fC:=hd vp;have gV:=hd xA;clear xA;(first|have gI:=hd (kBf (w:=w) (Z:=(.cells #[.bool false,.slice none 0 0,.slice none 0 0,.slice none 0 0] 26)) b2)|skip);clear h2 vp)
     |(go_at_call 126;refine Calls.mono (HT _ ?hh).o ?_;(case hh=>(go_split_ands;assumption));intro e w3 h3;obtain⟨gt,ct,rfl,vt,b3,hct,rE⟩:=h3.vp;have jg:=zXl ‹_› b3;have fD:=hd vt;have oD:=hd rE;clear rE;(first|(have jh:=hd (kI gI.o b3);have o9:=zJ jh.o;obtain⟨q0,q1,q2,q3,q4,q5,q6,q7⟩:=o9)|(have jh:=hd (kFw (W0:=w2) (o:=(.cells #[.bool false,.slice none 0 0,.slice none 0 0,.slice none 0 0] 26)) b3 (g:=w2.heap.size) rfl);have o9:=zJ jh.o;obtain⟨q0,q1,q2,q3,q4,q5,q6,q7⟩:=o9)|skip);clear h3 vt))
   ·go_wp2_with fail
    go_meet
    exact zNb (w3:=w3) (zSb cT hct HB.o bG.o jg fC.o fD.o b3 (by rw[sz2];exact Nat.le_refl _) (by have h:=b2.size;rw[sz2]at h;omega) (by have h:=b2.size;rw[sz2]at h;have:=b3.size;omega)) rfl (heap_alloc_new _ _) (zT0 gV.o oD.o b3 (by rw[sz2];exact Nat.le_refl _) (by have h:=b2.size;rw[sz2]at h;omega)) (zGj.of_below (Kk.alloc Kl _))
   ·go_wp2_with fail
    go_meet
    exact zNb (w3:=w3) (zJ4 cT hct HB.o bG.o jg fC.o fD.o (zEu b3) jh.o (by have h:=b2.size;rw[sz2]at h;omega) (by rw[sz2];exact Nat.le_refl _) (by rw[sz1];have h:=b2.size;rw[sz2]at h;omega) (fun b _ h=>by omega) (fun b h=>by rw[sz1]at h;omega)) rfl (kD jh.o) (zT0 gV.o oD.o (zEu b3) (by rw[sz2];exact Nat.le_refl _) (by rw[sz1];have h:=b2.size;rw[sz2]at h;omega)) (zOj jh.o)
   ·go_wp2_with fail
    go_meet
    exact zNb (w3:=w3) (zJ4 cT hct HB.o bG.o jg fC.o fD.o b3 jh.o Kb (by rw[sz3];omega) (by have h:=b2.size;rw[sz3]at h;omega) (fun b h _=>by rw[sz3]at h;omega) (fun b h=>by have h2:=b2.size;rw[sz3]at h2;omega)) rfl (kD jh.o) (zT0 gV.o oD.o b3 (by rw[sz3];omega) (by have h:=b2.size;rw[sz3]at h;omega)) (zOj jh.o)
  case rest=>
   obtain⟨gO,gp,cp,gt,ct,rfl,cA,hr4,o7,k3,hO,fC,fD,cT,hct,hpt⟩:=hcut;have xB:=hd hpt;clear hpt;obtain⟨o0,o1,o2,o3,f0,f1,f2,f3⟩:=zJ hO;have qh:=lt_of_block hO;have HO:=hd hO;have ip:=hd cA;have fC:=hd fC;have fD:=hd fD;have hk3:((wc.setCell ⟨gO,3,none⟩ (.slice (some ⟨wc.heap.size,0,none⟩) 0 ks.length)).alloc (.cells cs 26)).cell? ⟨w.heap.size,3,none⟩=some (.slice KA ks.length kc):=by
    rw[World.cell?_alloc_lt _ _ _ (by have:=kQ k3;simpa using this),World.cell?_setCell_other _ _ _ _ (by simp;try omega)];exact k3
   have nQ:=hd (show zGk w d lf ps tx ks gO gp cp gt ct 0 wc.heap.size ks.length [] _ from⟨zOl (d:=d) (ks:=ks) o7 hO cA hr4 fC.o fD.o kp.o cC,xB.o.keep ((zGj.of_but hO (fun b hb _=>Below.heap_setCell wc (a:=⟨gO,3,none⟩) (.slice (some ⟨wc.heap.size,0,none⟩) 0 ks.length) b (by simpa using hb))).trans (zGj.of_below (Kk.alloc Kl _)) Kc)⟩);clear xB;clear hO cA hr4 HP HT x0 x1 x2 x3 HX HB fC fD bG;go_wp2_with fail
   clear hk3 k3 o0 o1 o2 o3 f0 f1 f2 f3 hmk;go_loopw [24] (fun i wr=>∃(k gk cap:Nat)(us:List Value),k<=ks.length/\i=.int .i64 k/\Kq (zGk w d lf ps tx ks gO gp cp gt ct k gk cap us wr)) (fun i _=>ks.length-(intOf i).toNat)
   case atStart=>exact⟨0,_,_,_,Nat.zero_le _,rfl,nQ⟩
   case round=>
    obtain⟨k,gk,cap,us,hk,rfl,HL⟩:=hrel;clear nQ;have hbr:=HL.o.loop.below;by_cases hlt:k<ks.length
    ·obtain⟨m,b,o,lf1,bJ,bS,bK,bL,bT,bM,bN,bU,bO,hm,rfl,hbg,dw,c0,c1,c2,c3⟩:=(cv.o.below hbr).at_ hlt;have hsz:=hbr.size;have fV:=HL.o.loop.o;have fH:=lt_of_block fV;have HM:=hd hm;obtain⟨p0,p1,p2,p3,g0,g1,g2,g3⟩:=zJ fV;have rF:wr.cell? ⟨g,0,none⟩=some (.func (.func 124) #[] #[.pointer (some ⟨g,0,none⟩)]):=(hbr.cell (kQ HG.o)).trans HG.o;have hgl:=kQ rF;obtain⟨wk,hwk⟩:∃wk,wk=(wr.alloc (.cells #[.bool lf1,.slice bJ bS bK,.slice bL bT bM,.slice bN bU bO] 26)).drew:=⟨_,rfl⟩;have hbk:Below wr.heap.size wr wk:=hwk▸(Kk.alloc Kl _).drew;have HC:=hd (ih2 wk _ m ((hbk.cell (kQ rF)).trans rF) (((dw.more hsz).below hbk).more hbk.size));have ej:=hd hbk;have xC:wk.heap[gO]? =_:=(hbk.block _ fH).trans fV;have dz:=hd xC;have hks:=hd (show wk.heap.size=wr.heap.size+1 by rw[hwk];exact sz1);have o8:=kQ HG.o;have AV:=HL.o.loop.row.lt gk rfl;have gj:=HL.o.loop.apart;obtain⟨i0,hi,hz0,hz1,hz2⟩:=info_parts zJj;subst hwk;clear dw hbk hm fV hbr xC;go_upto_block 1 with fail
     go_cut [24] (fun s wx=>s=.int .i64 k/\∃(g6 bZ:Nat)(eD:List Value),Kq (zGk w d lf ps tx ks gO gp cp gt ct (k+1) g6 bZ eD wx))
     case first=>
      go_wp2_with fail
      go_region_law(first
        |((go_simp;go_at_call 124;refine HC.o.mono ?_;intro e w4 h4;obtain⟨v4,rfl,dt,hb4⟩:=h4;obtain⟨lf4,aU,bg,aS,aV,bh,aT,aZ,bi,bb,rfl⟩:=(dt.at_ (B:=w4.heap.size) (fun b hb=>hb.2)).val;obtain⟨hs4,cD⟩:=zIk hb4;have ji:=hd ((cD gO fH).trans HL.o.loop.o);obtain⟨r0,r1,r2,r3,r4,r5,r6,r7⟩:=zJ ji.o;have rG:gO<w4.heap.size:=Kb;have hrow4:=hd (zG5 HL.o.loop.row cD);have kq:=hd cD;clear cD;have cA:=hd hb4;have iq:=hd dt;clear dt hb4))
        |((refine step_append_lies _ Ke (.tmp 29) (.tmp 33) _ Ke (w.heap.size+2) 26 i0 _ 4 80 Tryz.underlying24 hi hz0 hz1 hz2 rfl Kb (.slice (some ⟨gk,0,none⟩) k cap) k (us.flatMap fun u=>u.cells.toList) (by first|rfl|simp[Act.eval]) (hrow4.o.alloc _) ⟨w4.heap.size,0,none⟩ 1 1 [.bool lf4,.slice aU bg aS,.slice aV bh aT,.slice aZ bi bb] (by first|rfl|simp[Act.eval]) Ke (World.news_of_block (cs:=#[.bool lf4,.slice aU bg aS,.slice aV bh aT,.slice aZ bi bb]) (t:=26) (fr:=(0,0)) (heap_alloc_new w4 _)) (by simp[Value.oneCell']) Kb Kg Kb Kf (w4.heap.size+1) Kc ?_;intro g6 bZ w6 aQ aw bR jk;have eT:=hd (zNe aw ji.o gj);obtain⟨s0,s1,s2,s3,s4,s5,s6,s7⟩:=zJ eT.o;have jl:=lt_of_block eT.o)))
      all_goals
       have HST:=hd (zXc HL.o cA.o aw (zSc HL.o.loop HM.o cA.o iq.o aw aQ bR))
       clear aw aQ bR s0 s1 s2 s3 s4 s5 s6 s7 r0 r1 r2 r3 r4 r5 r6 r7 hrow4 ji eT kq cA iq p0 p1 p2 p3 g0 g1 g2 g3 c0 c1 c2 c3
       go_wp2_with fail
       go_meet
       exact⟨rfl,g6,bZ,_,HST⟩
     case rest=>
      obtain⟨rfl,g6,bZ,eD,HST⟩:=hcut;clear p0 p1 p2 p3 g0 g1 g2 g3 c0 c1 c2 c3;go_wp2
      go_roundw
      case rel=>exact⟨k+1,g6,bZ,eD,by omega,by go_num,HST⟩
      case measure=>simp[intOf];omega
    ·obtain rfl:k=ks.length:=Kb;have eU:=HL.o.loop.o;have oF:=lt_of_block eU;obtain⟨p0,p1,p2,p3,_,_,_,_⟩:=zJ eU;clear eU;obtain⟨q0,q1,q2,q3,q4,q5,q6,q7⟩:=zJ HL.o.loop.res;have oG:=hd HL.o.loop.res;have hbr:=HL.o.loop.below;go_wp2
     have h7:=kD (a:=.bool lf) (b:=.slice (some ⟨gp,0,none⟩) ps.length cp) (c:=.slice (some ⟨gt,0,none⟩) tx.length ct) (d:=.slice (some ⟨gk,0,none⟩) ks.length cap) oG.o;obtain⟨t0,t1,t2,t3,_,_,_,_⟩:=zJ h7;refine bodyPost_ret (v:=.agg #[.bool lf,.slice (some ⟨gp,0,none⟩) ps.length cp,.slice (some ⟨gt,0,none⟩) tx.length ct,.slice (some ⟨gk,0,none⟩) ks.length cap]) (by simp[results,Tryz.results124,go_sem,t0,t1,t2,t3]) rfl ⟨_,rfl,kA3 HL.o ⟨HF.o.1,HF.o.2.1,HF.o.2.2.1,HF.o.2.2.2.1,cT,hct⟩ Kc (fun b hb=>?_),?_⟩
     ·iterate 4 rw[Below.heap_setCell _ _ _ _ (by simpa using hb)]
     ·exact(((hbr.setCell (by show _<=w.heap.size+1;omega) _).setCell (by show _<=w.heap.size+1;omega) _).setCell (by show _<=w.heap.size+1;omega) _).setCell (by show _<=w.heap.size+1;omega) _
theorem zYx (d:Nat)(w:World)(v:Value)(n:NT)(hn:zV d w w.heap.size v n):Calls Tryz.prog 75 #[v] w (zPu (d-1) n w):=by
 have hn0:=hn;obtain⟨lf,PA,np,pc,TA,nt,tc,KA,nk,kc,rfl⟩:=hn.val;obtain⟨f0,nP⟩:∃f:Value,f=.func (.func 124) #[] #[.pointer (some ⟨w.heap.size+1+1,0,none⟩)]:=⟨_,rfl⟩;obtain⟨wa,gH⟩:∃wa,wa=((w.alloc (.cells #[.bool lf,.slice PA np pc,.slice TA nt tc,.slice KA nk kc] 26)).alloc (.cells #[.bool false,.slice none 0 0,.slice none 0 0,.slice none 0 0] 26)).alloc (.cells #[f0] 38):=⟨_,rfl⟩;have dU:Below w.heap.size w wa:=gH▸(kM Kk Kl).alloc Kf _;have ql:wa.cell? ⟨w.heap.size+1+1,0,none⟩=some f0:=by rw[gH,World.cell?_alloc_at _ _ _ _ Kc];rfl
 have hsa:wa.heap.size=w.heap.size+3:=by rw[gH];simp
 have xD:wa.heap[w.heap.size+1]? =some (.cells #[.bool false,.slice none 0 0,.slice none 0 0,.slice none 0 0] 26):=by
  rw[gH,Below.heap_alloc _ _ _ Kc];rw[<-sz1 (w:=w) (A:=.cells #[.bool lf,.slice PA np pc,.slice TA nt tc,.slice KA nk kc] 26)];exact heap_alloc_new _ _
 have HC:=hd (zV1 (w.heap.size+1+1) d wa _ _ (nP▸ql) (hn0.later dU));have HB:=hd dU;have HR:=hd xD;have HS:=hd hsa;subst gH nP;clear hn hn0 dU ql xD hsa;go_enter Tryz.func75,Tryz.ntmps75
 go_wp2_with(first|(refine HC.o.mono ?_;intro e w' h4;obtain⟨v4,rfl,dt,hb4⟩:=h4;obtain⟨lf4,aU,bg,aS,aV,bh,aT,aZ,bi,bb,rfl⟩:=dt.val;have lS:=hd ((hb4.block (w.heap.size+1) (by rw[HS.o];omega)).trans HR.o);obtain⟨r0,r1,r2,r3,r4,r5,r6,r7⟩:=zJ lS.o;have iq:=hd dt;have cA:=hd hb4;clear dt hb4))
 have h7:=kD (a:=.bool lf4) (b:=.slice aU bg aS) (c:=.slice aV bh aT) (d:=.slice aZ bi bb) lS.o;obtain⟨t0,t1,t2,t3,_,_,_,_⟩:=zJ h7;have hsz:=cA.o.size;rw[HS.o]at hsz;have xE:=iq.o;rw[HS.o]at xE;have cZ:Below w.heap.size w w':=HB.o.trans (cA.o.mono (by rw[HS.o];omega));refine bodyPost_ret (v:=.agg #[.bool lf4,.slice aU bg aS,.slice aV bh aT,.slice aZ bi bb]) (by simp[results,Tryz.results75,go_sem,t0,t1,t2,t3]) rfl ⟨_,rfl,(xE.keep Kc (fun b h1 _=>?_)).base Kb,?_⟩
 ·have hne:b≠w.heap.size+1:=Kb;iterate 4 rw[Below.heap_setCell _ _ _ _ (by simpa using hne)]
 ·exact(((cZ.setCell (by show _<=w.heap.size+1;omega) _).setCell (by show _<=w.heap.size+1;omega) _).setCell (by show _<=w.heap.size+1;omega) _).setCell (by show _<=w.heap.size+1;omega) _
