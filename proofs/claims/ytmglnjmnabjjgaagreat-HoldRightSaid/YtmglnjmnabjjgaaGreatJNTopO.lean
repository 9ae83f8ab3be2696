import Derived.Test.YtmglnjmnabjjgaaGreatJTTree
set_option maxRecDepth 100000
set_option maxHeartbeats 8000000
namespace Go.Proofs.YtmglnjmnabjjgaaGreat
open Go.RowKit
open Go.WideShapes (add_plain)
variable {w w' w2 w3 wr:World}{b base' cap cp d g gO gk k kc nk np nt pc tc:Nat}{t:TypeId}{v:Value}{n:NT}{us xs:List Value}{cs:Array Value}{fr:Nat×Nat}{KA TA gp gt:Option Addr}{e:Ending}{r:NT×Int}{p:List Int}
theorem zBy {base:Nat}{size:Nat}{n:Nat}(h:w.ownsRow base t size v n xs)(hb:base'<=base):w.ownsRow base' t size v n xs:=by
 refine⟨h.1,?_⟩;rcases h.2 with e|⟨g,cap,cur,e,hg,rest⟩
 ·exact .inl e
 ·exact .inr ⟨g,cap,cur,e,by omega,rest⟩
def zGj (w w':World):Prop:=∀b,b<w.heap.size->(∀cs fr,w.heap[b]? ≠some (.cells cs 26 fr))->w'.heap[b]? =w.heap[b]?
theorem zCs {base:Nat}{size:Nat}{n:Nat}(h:w.ownsRow base t size v n xs)(ht:t≠26)(hk:zGj w w'):w'.ownsRow base t size v n xs:=by
 refine⟨h.1,?_⟩;rcases h.2 with e|⟨g,cap,cur,e,hg,hh,rest⟩
 ·exact .inl e
 ·refine .inr ⟨g,cap,cur,e,hg,(hk g (lt_of_block hh) fun cs fr e2=>?_).trans hh,rest⟩;rw[hh]at e2;injection e2 with e2;injection e2 with _ e3;exact ht e3
theorem zGj.of_below (h:Below w.heap.size w w'):zGj w w':=fun b hb _=>h.block b hb
theorem zGj.of_but (hg:w.heap[g]? =some (.cells cs 26 fr))(h:∀b,b≠g->b<w.heap.size->w'.heap[b]? =w.heap[b]?):zGj w w':=fun b hb hn=>h b (fun e=>hn cs fr (e▸hg)) hb
structure PT (w:World)(base:Nat)(gp:Option Addr)(cp:Nat)(gt:Option Addr)(ct:Nat)(ps:List Pr)(tx:List Int):Prop where
 p:w.ownsRow base 103 2 (.slice gp ps.length cp) ps.length (pv ps)
 t:w.ownsRow base 21 1 (.slice gt tx.length ct) tx.length (rv tx)
theorem PT.keep {base:Nat}{ct:Nat}{ps:List Pr}{tx:List Int}(h:PT w base gp cp gt ct ps tx)(hk:zGj w w'):PT w' base gp cp gt ct ps tx:=
 ⟨zCs h.p Kd hk,zCs h.t Kd hk⟩
def zVd (t:TypeId)(size n:Nat)(xs:List Value)(w:World)(e:Ending)(w':World):Prop:=
 ∃g c,e=.returned (.slice (some ⟨g,0,none⟩) n c)/\w'.ownsRow w.heap.size t size (.slice (some ⟨g,0,none⟩) n c) n xs/\Below w.heap.size w w'
theorem zVd.vp {size n:Nat}(h:zVd t size n xs w e w'):∃g c,e=.returned (.slice (some ⟨g,0,none⟩) n c)/\VP (fun b=>w.heap.size<=b/\b<w'.heap.size) w' (some ⟨g,0,none⟩) xs/\Below w.heap.size w w'/\n<=c/\w'.ownsRow w.heap.size t size (.slice (some ⟨g,0,none⟩) n c) n xs:=by
 obtain⟨g,c,e,h1,h2⟩:=h;exact⟨g,c,e,zIr h1,h2,zPm h1,h1⟩
theorem zTx (A:Option Addr)(ps:List Pr)(c:Nat)(w:World)(hl:ps.length<=4398046511104)(hp:PL w w.heap.size A ps):Calls Tryz.prog 80 #[.slice A ps.length c] w (zVd 103 2 ps.length (pv ps) w):=by
 obtain⟨cs,hcs,hmk⟩:=zGt zZh ps.length Kb Kb;have hv:VL w w.heap.size A (pv ps):=hp.vl;have HV:=hd hv;have lJ:=hd hcs;clear hp hv hcs;go_enter Tryz.func80,Tryz.ntmps80
 go_wp2_with(at_builtin;refine zBr zZh _ rfl (.tmp 5) (.tmp 6) rfl w.heap.size (.slice (some ⟨w.heap.size,0,none⟩) 0 ps.length) 0 [] rfl (World.ownsRow_made w cs ps.length Kl Kg lJ.o) A ps.length c w.heap.size (pv ps) rfl (by rw[zN8]<;>omega) (HV.o.below (Kk.alloc Kl _)) (zZg ps) Kg Kb Kc rfl ?_;intro g cap w1 aB hg1)
 go_ret
 rw[Nat.zero_add,List.nil_append]at aB;exact⟨g,cap,rfl,aB,(Kk.alloc Kl _).grown hg1 Kc (fun j hj=>by simp[Value.ownBlock]at hj;omega)⟩
theorem zTy (A:Option Addr)(ps:List Int)(c:Nat)(w:World)(hl:ps.length<=35184372088832)(hp:VL w w.heap.size A (rv ps)):Calls Tryz.prog 81 #[.slice A ps.length c] w (zVd 21 1 ps.length (rv ps) w):=by
 obtain⟨cs,hcs,hmk⟩:=zGt zTa ps.length Kb Kb;have hv:VL w w.heap.size A (rv ps):=hp;have HV:=hd hv;have lJ:=hd hcs;clear hp hv hcs;go_enter Tryz.func81,Tryz.ntmps81
 go_wp2_with(at_builtin;refine zBr zTa _ rfl (.tmp 5) (.tmp 6) rfl w.heap.size (.slice (some ⟨w.heap.size,0,none⟩) 0 ps.length) 0 [] rfl (World.ownsRow_made w cs ps.length Kl Kg lJ.o) A ps.length c w.heap.size (rv ps) rfl (by rw[zCg]<;>omega) (HV.o.below (Kk.alloc Kl _)) (zNz ps) Kg Kb Kc rfl ?_;intro g cap w1 aB hg1)
 go_ret
 rw[Nat.zero_add,List.nil_append]at aB;exact⟨g,cap,rfl,aB,(Kk.alloc Kl _).grown hg1 Kc (fun j hj=>by simp[Value.ownBlock]at hj;omega)⟩
def zTz (base d:Nat)(w:World)(v:Value)(n:NT):Prop:=
 ∃(PA:Option Addr)(pc:Nat)(TA:Option Addr)(tc:Nat)(KA:Option Addr)(kc:Nat)(us:List Value),v=.agg #[.bool n.lf,.slice PA n.ps.length pc,.slice TA n.tx.length tc,.slice KA n.ks.length kc]/\w.ownsRow base 103 2 (.slice PA n.ps.length pc) n.ps.length (pv n.ps)/\w.ownsRow base 21 1 (.slice TA n.tx.length tc) n.tx.length (rv n.tx)/\
  w.ownsRow base 26 4 (.slice KA n.ks.length kc) n.ks.length (zGg us)/\zU0 n.ps n.tx.length n.ks.length pc tc kc/\us.length=n.ks.length/\∀(j:Nat)(m:NT),n.ks[j]? =some m->∃u,us[j]? =some u/\zAx (fun b=>base<=b/\b<w.heap.size/\some b≠(Value.slice KA 0 0).ownBlock) d w u m
theorem zTz.base {base:Nat}(h:zTz base d w v n)(hb:base'<=base):zTz base' d w v n:=by
 obtain⟨PA,pc,TA,tc,KA,kc,us,e,hp,ht,hk,hf,hl,hks⟩:=h;exact⟨PA,pc,TA,tc,KA,kc,us,e,zBy hp hb,zBy ht hb,zBy hk hb,hf,hl,fun j m hm=>by
  obtain⟨u,h1,h2⟩:=hks j m hm;exact⟨u,h1,h2.keep (fun b hb2=>⟨by omega,hb2.2⟩) (fun _ _=>⟨rfl,rfl⟩)⟩⟩
theorem zA8 {base:Nat}{size:Nat}{n:Nat}(h:w.ownsRow base t size v n xs)(hk:∀b,base<=b->b<w.heap.size->w'.heap[b]? =w.heap[b]?):w'.ownsRow base t size v n xs:=by
 refine⟨h.1,?_⟩;rcases h.2 with e|⟨g,cap,cur,e,hg,hh,rest⟩
 ·exact .inl e
 ·exact .inr ⟨g,cap,cur,e,hg,(hk g hg (lt_of_block hh)).trans hh,rest⟩
theorem zTz.keep {base:Nat}(h:zTz base d w v n)(hs:w.heap.size<=w'.heap.size)(hk:∀b,base<=b->b<w.heap.size->w'.heap[b]? =w.heap[b]?):zTz base d w' v n:=by
 obtain⟨PA,pc,TA,tc,KA,kc,us,e,hp,ht,hkk,hf,hl,hks⟩:=h;exact⟨PA,pc,TA,tc,KA,kc,us,e,zA8 hp hk,zA8 ht hk,zA8 hkk hk,hf,hl,fun j m hm=>by
  obtain⟨u,h1,h2⟩:=hks j m hm;exact⟨u,h1,h2.keep (fun b hb2=>⟨hb2.1,by omega,hb2.2.2⟩) (fun p hp=>⟨World.cell?_of_block (hk _ hp.1 hp.2.1),World.frozen?_of_block (hk _ hp.1 hp.2.1)⟩)⟩⟩
theorem zTz.val {base:Nat}(h:zTz base d w v n):∃lf PA np pc TA nt tc KA nk kc,v=.agg #[.bool lf,.slice PA np pc,.slice TA nt tc,.slice KA nk kc]:=by
 obtain⟨PA,pc,TA,tc,KA,kc,us,e,_⟩:=h;exact⟨_,_,_,_,_,_,_,_,_,_,e⟩
theorem zTz.tree {base:Nat}(h:zTz base d w v n):zAx (fun b=>base<=b/\b<w.heap.size) (d+1) w v n:=by
 obtain⟨PA,pc,TA,tc,KA,kc,us,e,hp,ht,hkk,hf,hl,hks⟩:=h;refine⟨PA,pc,TA,tc,KA,kc,e,zIr hp,zIr ht,hf,fun k m hm=>?_⟩;have hfree:=zIr hkk;have h4:∀x ∈ us,x.cells.size=4:=fun x hx=>by
  obtain⟨j,hj,rfl⟩:=List.mem_iff_getElem.1 hx;obtain⟨u,hu,ht⟩:=hks j _ (List.getElem?_eq_getElem (by rw[<-hl];exact hj));rw[List.getElem?_eq_getElem hj]at hu;injection hu with hu;obtain⟨c0,c1,c2,c3,e⟩:=ht.four;rw[hu,e];rfl
 obtain⟨u,hu,htr⟩:=hks k m hm;obtain⟨c0,c1,c2,c3,e4⟩:=htr.four;have hc:=fun i c hi=>hfree (k*4+i) c (zJ5 us k u c0 c1 c2 c3 h4 hu e4 i c hi);obtain⟨g,o,hg,hgb,hc0⟩:=hc 0 c0 rfl;subst hg;have hc':∀i c,[c0,c1,c2,c3][i]? =some c->kKa w g (o+(k*4+i)) c:=fun i c hi=>by
  obtain⟨g',o',e',_,h5⟩:=hc i c hi;injection e' with e';injection e' with e1 e2;subst e1 e2;exact h5
 refine⟨g,o,u,rfl,hgb,htr.keep (fun b hb=>⟨hb.1,hb.2.1⟩) (fun _ _=>⟨rfl,rfl⟩),⟨c0,c1,c2,c3,e4,?_,?_,?_,?_⟩,?_⟩
 ·exact(hc' 0 c0 rfl).1
 ·exact(hc' 1 c1 rfl).1
 ·exact(hc' 2 c2 rfl).1
 ·exact(hc' 3 c3 rfl).1
 ·exact(hc' 0 c0 rfl).2
def zPu (d:Nat)(n:NT)(w:World)(e:Ending)(w':World):Prop:=
 ∃v,e=.returned v/\zTz w.heap.size d w' v n/\Below w.heap.size w w'
theorem zPu.copied (h:zPu d n w e w'):zVf (d+1) n w e w':=by
 obtain⟨v,h1,h2,h3⟩:=h;exact⟨v,h1,h2.tree,h3⟩
def kFt (w:World)(lf:Bool)(ps:List Pr)(tx:List Int)(kids:Value)(s4:Value)(wx:World):Prop:=
 ∃gO gp cp gt ct,s4=.pointer (some ⟨gO,0,none⟩)/\Below w.heap.size w wx/\wx.heap[w.heap.size+1]? =some (.cells #[.bool false,.slice none 0 0,.slice none 0 0,.slice none 0 0] 26)/\w.heap.size+2<=gO/\wx.cell? ⟨w.heap.size,3,none⟩=some kids/\
  wx.heap[gO]? =some (.cells #[.bool lf,.slice (some ⟨gp,0,none⟩) ps.length cp,.slice (some ⟨gt,0,none⟩) tx.length ct,.slice none 0 0] 26 (0,0))/\
  VP (fun b=>w.heap.size+2<=b/\b<wx.heap.size/\b≠gO) wx (some ⟨gp,0,none⟩) (pv ps)/\VP (fun b=>w.heap.size+2<=b/\b<wx.heap.size/\b≠gO) wx (some ⟨gt,0,none⟩) (rv tx)/\ps.length<=cp/\tx.length<=ct/\PT wx (w.heap.size+2) (some ⟨gp,0,none⟩) cp (some ⟨gt,0,none⟩) ct ps tx
theorem zNb {lf:Bool}{ps:List Pr}{tx:List Int}{kids s4:Value}{wx:World}{gp gt ct:Nat}{k0:Value}(h:kEw w lf ps tx kids s4 wx)(e:s4=.pointer (some ⟨gO,0,none⟩))(hO:wx.heap[gO]? =some (.cells #[.bool lf,.slice (some ⟨gp,0,none⟩) ps.length cp,.slice (some ⟨gt,0,none⟩) tx.length ct,k0] 26 fr))(hpt:PT w3 (w.heap.size+2) (some ⟨gp,0,none⟩) cp (some ⟨gt,0,none⟩) ct ps tx)(hk:zGj w3 wx):kFt w lf ps tx kids s4 wx:=by
 obtain⟨gO',gp',cp',gt',ct',e',h2,h3,h4,h5,h6,h7,h8,h9,h10⟩:=h;have eO:gO'=gO:=by rw[e]at e';injection e' with e';injection e' with e';injection e' with e';exact e'.symm
 subst eO;rw[hO]at h6;simp only[Option.some.injEq,Obj.cells.injEq,Array.mk.injEq,List.cons.injEq,Value.slice.injEq,Addr.mk.injEq,and_true,true_and]at h6;obtain⟨⟨⟨e1,e2⟩,⟨e3,e4⟩,e5⟩,e6⟩:=h6;subst e1 e2 e3 e4 e5 e6;exact⟨_,_,_,_,_,e,h2,h3,h4,h5,hO,h7,h8,h9,h10,hpt.keep hk⟩
theorem zT0 {W W':World}{ps:List Pr}{tx:List Int}{ct:Nat}(op:w2.ownsRow W.heap.size 103 2 (.slice gp ps.length cp) ps.length (pv ps))(ot:w3.ownsRow W'.heap.size 21 1 (.slice gt tx.length ct) tx.length (rv tx))(hb:Below w2.heap.size w2 w3)(hW:w.heap.size+2<=W.heap.size)(hW':w.heap.size+2<=W'.heap.size):PT w3 (w.heap.size+2) gp cp gt ct ps tx:=
 ⟨zBy (zA8 op fun b _ hl=>hb.block b hl) hW,zBy ot hW'⟩
theorem zOj {a b c d:Value}(h:w.heap[g]? =some (.cells cs 26 fr)):zGj w ((((w.setCell ⟨g,0,none⟩ a).setCell ⟨g,1,none⟩ b).setCell ⟨g,2,none⟩ c).setCell ⟨g,3,none⟩ d):=
 zGj.of_but h fun k hk _=>by iterate 4 rw[Below.heap_setCell _ _ _ _ (by simpa using hk)]
structure zGk (w:World)(d:Nat)(lf:Bool)(ps:List Pr)(tx:List Int)(ks:List NT)(gO gp cp gt ct k gk cap:Nat)(us:List Value)(wr:World):Prop where
 loop:zFs w d lf ps tx ks gO gp cp gt ct k gk cap us wr
 pt:PT wr (w.heap.size+2) (some ⟨gp,0,none⟩) cp (some ⟨gt,0,none⟩) ct ps tx
theorem zGj.trans {a b c:World}(h:zGj a b)(k:zGj b c)(hs:a.heap.size<=b.heap.size):zGj a c:=fun x hx hn=>by
 have h1:=h x hx hn;exact(k x Kb (fun cs fr e=>hn cs fr (h1.symm.trans e))).trans h1
theorem zXc {w4 w6:World}{lf:Bool}{ps:List Pr}{tx:List Int}{ks:List NT}{gp gt ct g6 aT:Nat}{fJ:List Value}{o o1:Obj}{x:Value}(h:zGk w d lf ps tx ks gO gp cp gt ct k gk cap us wr)
  (hb4:Below (wr.alloc o).drew.heap.size (wr.alloc o).drew w4) (hgrow:(w4.alloc o1).grownBy w6 (some gk)) (hst:zFs w d lf ps tx ks gO gp cp gt ct (k+1) g6 aT fJ (w6.setCell ⟨gO,3,none⟩ x)):zGk w d lf ps tx ks gO gp cp gt ct (k+1) g6 aT fJ (w6.setCell ⟨gO,3,none⟩ x):=by
 refine⟨hst,h.pt.keep fun b hb hn=>?_⟩;obtain⟨hs4,dF⟩:=zIk hb4;have e5:(w4.alloc o1).heap.size=w4.heap.size+1:=sz1;have hne:b≠gO:=fun e=>hn _ _ (e▸h.loop.o);have fE:b≠gk:=fun e=>by
  rcases h.loop.row.2 with⟨e1,_⟩|⟨g',cap',cur,e1,_,hh,_⟩
  ·cases e1
  ·injection e1 with e1;injection e1 with e1;injection e1 with e1;exact hn _ _ (e▸e1▸hh)
 rw[Below.heap_setCell _ _ _ _ (by simpa using hne),hgrow.block b (by rw[e5];omega) (by intro e;injection e with e;exact fE e),Below.heap_alloc _ _ _ Kb,dF b hb]
theorem kA3 {w7:World}{lf:Bool}{ps:List Pr}{tx:List Int}{ks:List NT}{gp gt ct:Nat}(hh:zGk w d lf ps tx ks gO gp cp gt ct ks.length gk cap us wr)(hf:zIo ps/\ps.length<=4398046511104/\tx.length<=35184372088832/\ks.length<=1759218604441/\ps.length<=cp/\tx.length<=ct)(hs:wr.heap.size<=w7.heap.size)
  (h7:∀b,b≠w.heap.size+1->w7.heap[b]? =wr.heap[b]?):
  zTz w.heap.size d w7 (.agg #[.bool lf,.slice (some ⟨gp,0,none⟩) ps.length cp,.slice (some ⟨gt,0,none⟩) tx.length ct,.slice (some ⟨gk,0,none⟩) ks.length cap]) (.mk lf ps tx ks):=by
 have h:=hh.loop;have lK:∀b,w.heap.size+2<=b->b<wr.heap.size->w7.heap[b]? =wr.heap[b]? :=fun b h1 _=>h7 b Kb;have hrow:=zA8 h.row lK;refine⟨_,_,_,_,_,_,us,rfl,zBy (zA8 hh.pt.p lK) Kb,zBy (zA8 hh.pt.t lK) Kb,zBy hrow Kb,⟨hf.1,hf.2.1,hf.2.2.1,hf.2.2.2.1,hf.2.2.2.2.1,hf.2.2.2.2.2,zPm hrow⟩,h.len,fun j m hm=>?_⟩;obtain⟨u,hu,ht⟩:=h.kids j m (List.getElem?_eq_some_iff.1 hm).1 hm;exact⟨u,hu,ht.keep (fun b hb=>⟨by omega,by omega,fun e=>by injection e with e;exact hb.2.2.2 e⟩) (fun p hp=>⟨World.cell?_of_block (h7 _ Kb),World.frozen?_of_block (h7 _ Kb)⟩)⟩
theorem zV1 (g:Nat):∀(d:Nat)(w:World)(v:Value)(n:NT),w.cell? ⟨g,0,none⟩=some (.func (.func 79) #[] #[.pointer (some ⟨g,0,none⟩)])->zV d w w.heap.size v n->
      Calls Tryz.prog 79 #[v,.pointer (some ⟨g,0,none⟩)] w (zPu (d-1) n w):=by
 intro d;induction d with
 |zero=>intro w v n _ h;exact h.elim
 | succ d ih=>
  have ih2:∀(w:World)(v:Value)(n:NT),w.cell? ⟨g,0,none⟩=some (.func (.func 79) #[] #[.pointer (some ⟨g,0,none⟩)])->zV d w w.heap.size v n->Calls Tryz.prog 79 #[v,.pointer (some ⟨g,0,none⟩)] w (zVf d n w):=by
   intro w v n h1 h2;cases d with
   |zero=>exact h2.elim
   |succ d0=>exact(ih w v n h1 h2).mono fun e w' hh=>hh.copied
  clear ih;intro w v n hg hn;obtain⟨d1,lf,ps,tx,ks,PA,pc,TA,tc,KA,kc,hd1,rfl,rfl,hp,ht,hf,hks⟩:=hn.open_;obtain rfl:d=d1:=Kb;obtain⟨wb,hwb⟩:∃wb,wb=(w.alloc (.cells #[.bool lf,.slice PA ps.length pc,.slice TA tx.length tc,.slice KA ks.length kc] 26)).alloc (.cells #[.bool false,.slice none 0 0,.slice none 0 0,.slice none 0 0] 26):=⟨_,rfl⟩;have hb1:Below w.heap.size w wb:=hwb▸kM Kk Kl;have X:=(Box.new w (.bool lf) (.slice PA ps.length pc) (.slice TA tx.length tc) (.slice KA ks.length kc) 26).alloc (.cells #[.bool false,.slice none 0 0,.slice none 0 0,.slice none 0 0] 26);rw[<-hwb]at X;have HP:=fun(w':World)(hb0:Below wb.heap.size wb w')=>hd (zTx PA ps pc w' hf.2.1 ((hp.below (hb1.trans (hb0.mono hb1.size))).more (hb1.trans (hb0.mono hb1.size)).size));have HT:=fun(w':World)(hb0:Below wb.heap.size wb w')=>hd (zTy TA tx tc w' hf.2.2.1 ((ht.below (hb1.trans (hb0.mono hb1.size))).more (hb1.trans (hb0.mono hb1.size)).size));have bW:=hd (show wb.heap[w.heap.size+1]? =some (.cells #[.bool false,.slice none 0 0,.slice none 0 0,.slice none 0 0] 26) by rw[hwb,<-sz1 (w:=w) (A:=(.cells #[.bool lf,.slice PA ps.length pc,.slice TA tx.length tc,.slice KA ks.length kc] 26))];exact heap_alloc_new _ _);obtain⟨cs,hcs,hmk⟩:=zGt zWg ks.length (by have:=hf.2.2.2.1;omega) (by have:=hf.2.2.2.1;omega);have lJ:=hd hcs;have bJ:=hd hks;have HG:=hd hg;have HF:=hd hf;have HB:=hd hb1;have HX:=hd X;have cj:=hf.2.2.2.1;obtain⟨x0,x1,x2,x3⟩:=X;subst hwb;clear hn hp ht hf hks hd1 hb1 hg hcs;go_enter Tryz.func79,Tryz.ntmps79
  go_wp2_with fail
  go_upto_region 1 with fail
  go_cut [4] (fun s4 wx=>kFt w lf ps tx (.slice KA ks.length kc) s4 wx)
  case first=>
   go_region_held3(fun w'=>Below ((w.alloc (.cells #[.bool lf,.slice PA ps.length pc,.slice TA tx.length tc,.slice KA ks.length kc] 26)).alloc (.cells #[.bool false,.slice none 0 0,.slice none 0 0,.slice none 0 0] 26)).heap.size ((w.alloc (.cells #[.bool lf,.slice PA ps.length pc,.slice TA tx.length tc,.slice KA ks.length kc] 26)).alloc (.cells #[.bool false,.slice none 0 0,.slice none 0 0,.slice none 0 0] 26)) w'/\w'.cell? ⟨w.heap.size,0,none⟩=some (.bool lf)/\w'.cell? ⟨w.heap.size,1,none⟩=some (.slice PA ps.length pc)/\w'.cell? ⟨w.heap.size,2,none⟩=some (.slice TA tx.length tc)/\w'.cell? ⟨w.heap.size,3,none⟩=some (.slice KA ks.length kc))
    (first
     |assumption
     |exact⟨Kk.drew,x0,x1,x2,x3⟩
     |exact zXl ‹_› (Kk.alloc Kl _)
     |exact kBg ‹_› Kf (by first|exact xw.1.size|simp))
    (first
     |(go_at_call 80;refine Calls.mono (HP _ ?hh).o ?_;(case hh=>(go_split_ands;assumption));intro e w2 h2;obtain⟨gp,cp,rfl,vp,b2,cQ,uy⟩:=h2.vp;have xw:=zXl ‹_› b2;have km:=hd vp;have iX:=hd uy;clear uy;(first|have pR:=hd (kBf (w:=w) (Z:=(.cells #[.bool false,.slice none 0 0,.slice none 0 0,.slice none 0 0] 26)) b2)|skip);clear h2 vp)
     |(go_at_call 81;refine Calls.mono (HT _ ?hh).o ?_;(case hh=>(go_split_ands;assumption));intro e w3 h3;obtain⟨gt,ct,rfl,vt,b3,hct,uz⟩:=h3.vp;have pS:=zXl ‹_› b3;have kp:=hd vt;have rO:=hd uz;clear uz;(first|(have iY:=hd (kI pR.o b3);have l6:=zJ iY.o;obtain⟨q0,q1,q2,q3,q4,q5,q6,q7⟩:=l6)|(have iY:=hd (kFw (W0:=w2) (o:=(.cells #[.bool false,.slice none 0 0,.slice none 0 0,.slice none 0 0] 26)) b3 (g:=w2.heap.size) rfl);have l6:=zJ iY.o;obtain⟨q0,q1,q2,q3,q4,q5,q6,q7⟩:=l6)|skip);clear h3 vt))
   ·go_wp2_with fail
    go_meet
    exact zNb (w3:=w3) (zSb cQ hct HB.o bW.o pS km.o kp.o b3 (by rw[sz2];exact Nat.le_refl _) (by have h:=b2.size;rw[sz2]at h;omega) (by have h:=b2.size;rw[sz2]at h;have:=b3.size;omega)) rfl (heap_alloc_new _ _) (zT0 iX.o rO.o b3 (by rw[sz2];exact Nat.le_refl _) (by have h:=b2.size;rw[sz2]at h;omega)) (zGj.of_below (Kk.alloc Kl _))
   ·go_wp2_with fail
    go_meet
    exact zNb (w3:=w3) (zJ4 cQ hct HB.o bW.o pS km.o kp.o (zEu b3) iY.o (by have h:=b2.size;rw[sz2]at h;omega) (by rw[sz2];exact Nat.le_refl _) (by rw[sz1];have h:=b2.size;rw[sz2]at h;omega) (fun b _ h=>by omega) (fun b h=>by rw[sz1]at h;omega)) rfl (kD iY.o) (zT0 iX.o rO.o (zEu b3) (by rw[sz2];exact Nat.le_refl _) (by rw[sz1];have h:=b2.size;rw[sz2]at h;omega)) (zOj iY.o)
   ·go_wp2_with fail
    go_meet
    exact zNb (w3:=w3) (zJ4 cQ hct HB.o bW.o pS km.o kp.o b3 iY.o Kb (by rw[sz3];omega) (by have h:=b2.size;rw[sz3]at h;omega) (fun b h _=>by rw[sz3]at h;omega) (fun b h=>by have h2:=b2.size;rw[sz3]at h2;omega)) rfl (kD iY.o) (zT0 iX.o rO.o b3 (by rw[sz3];omega) (by have h:=b2.size;rw[sz3]at h;omega)) (zOj iY.o)
  case rest=>
   obtain⟨gO,gp,cp,gt,ct,rfl,cv,hr4,rK,k3,hO,km,kp,cQ,hct,hpt⟩:=hcut;have uA:=hd hpt;clear hpt;obtain⟨o0,o1,o2,o3,f0,f1,f2,f3⟩:=zJ hO;have nr:=lt_of_block hO;have HO:=hd hO;have nv:=hd cv;have km:=hd km;have kp:=hd kp;have hk3:((wc.setCell ⟨gO,3,none⟩ (.slice (some ⟨wc.heap.size,0,none⟩) 0 ks.length)).alloc (.cells cs 26)).cell? ⟨w.heap.size,3,none⟩=some (.slice KA ks.length kc):=by
    rw[World.cell?_alloc_lt _ _ _ (by have:=kQ k3;simpa using this),World.cell?_setCell_other _ _ _ _ (by simp;try omega)];exact k3
   have o9:=hd (show zGk w d lf ps tx ks gO gp cp gt ct 0 wc.heap.size ks.length [] _ from⟨zOl (d:=d) (ks:=ks) rK hO cv hr4 km.o kp.o lJ.o cj,uA.o.keep ((zGj.of_but hO (fun b hb _=>Below.heap_setCell wc (a:=⟨gO,3,none⟩) (.slice (some ⟨wc.heap.size,0,none⟩) 0 ks.length) b (by simpa using hb))).trans (zGj.of_below (Kk.alloc Kl _)) Kc)⟩);clear uA;clear hO cv hr4 HP HT x0 x1 x2 x3 HX HB km kp bW;go_wp2_with fail
   clear hk3 k3 o0 o1 o2 o3 f0 f1 f2 f3 hmk;go_loopw [24] (fun i wr=>∃(k gk cap:Nat)(us:List Value),k<=ks.length/\i=.int .i64 k/\Kq (zGk w d lf ps tx ks gO gp cp gt ct k gk cap us wr)) (fun i _=>ks.length-(intOf i).toNat)
   case atStart=>exact⟨0,_,_,_,Nat.zero_le _,rfl,o9⟩
   case round=>
    obtain⟨k,gk,cap,us,hk,rfl,HL⟩:=hrel;clear o9;have hbr:=HL.o.loop.below;by_cases hlt:k<ks.length
    ·obtain⟨m,b,o,lf1,cY,dC,cZ,dh,dD,di,dt,dE,kc1,hm,rfl,hbg,cO,c0,c1,c2,c3⟩:=(bJ.o.below hbr).at_ hlt;have hsz:=hbr.size;have gf:=HL.o.loop.o;have fO:=lt_of_block gf;have HM:=hd hm;obtain⟨p0,p1,p2,p3,g0,g1,g2,g3⟩:=zJ gf;have oC:wr.cell? ⟨g,0,none⟩=some (.func (.func 79) #[] #[.pointer (some ⟨g,0,none⟩)]):=(hbr.cell (kQ HG.o)).trans HG.o;have hgl:=kQ oC;obtain⟨wk,hwk⟩:∃wk,wk=(wr.alloc (.cells #[.bool lf1,.slice cY dC cZ,.slice dh dD di,.slice dt dE kc1] 26)).drew:=⟨_,rfl⟩;have hbk:Below wr.heap.size wr wk:=hwk▸(Kk.alloc Kl _).drew;have HC:=hd (ih2 wk _ m ((hbk.cell (kQ oC)).trans oC) (((cO.more hsz).below hbk).more hbk.size));have eZ:=hd hbk;have uB:wk.heap[gO]? =_:=(hbk.block _ fO).trans gf;have bw:=hd uB;have hks:=hd (show wk.heap.size=wr.heap.size+1 by rw[hwk];exact sz1);have l5:=kQ HG.o;have xy:=HL.o.loop.row.lt gk rfl;have gN:=HL.o.loop.apart;obtain⟨i0,hi,hz0,hz1,hz2⟩:=info_parts zJj;subst hwk;clear cO hbk hm gf hbr uB;go_upto_block 1 with fail
     go_cut [24] (fun s wx=>s=.int .i64 k/\∃(g6 aT:Nat)(fJ:List Value),Kq (zGk w d lf ps tx ks gO gp cp gt ct (k+1) g6 aT fJ wx))
     case first=>
      go_wp2_with fail
      go_region_law(first
        |((go_simp;go_at_call 79;refine HC.o.mono ?_;intro e w4 h4;obtain⟨v4,rfl,dN,hb4⟩:=h4;obtain⟨lf4,aM,bf,aK,aN,bg,aL,aU,bh,aV,rfl⟩:=(dN.at_ (B:=w4.heap.size) (fun b hb=>hb.2)).val;obtain⟨hs4,dF⟩:=zIk hb4;have rP:=hd ((dF gO fO).trans HL.o.loop.o);obtain⟨r0,r1,r2,r3,r4,r5,r6,r7⟩:=zJ rP.o;have xz:gO<w4.heap.size:=Kb;have hrow4:=hd (zG5 HL.o.loop.row dF);have rQ:=hd dF;clear dF;have cv:=hd hb4;have ny:=hd dN;clear dN hb4))
        |((refine step_append_lies _ Ke (.tmp 29) (.tmp 33) _ Ke (w.heap.size+2) 26 i0 _ 4 80 Tryz.underlying24 hi hz0 hz1 hz2 rfl Kb (.slice (some ⟨gk,0,none⟩) k cap) k (us.flatMap fun u=>u.cells.toList) (by first|rfl|simp[Act.eval]) (hrow4.o.alloc _) ⟨w4.heap.size,0,none⟩ 1 1 [.bool lf4,.slice aM bf aK,.slice aN bg aL,.slice aU bh aV] (by first|rfl|simp[Act.eval]) Ke (World.news_of_block (cs:=#[.bool lf4,.slice aM bf aK,.slice aN bg aL,.slice aU bh aV]) (t:=26) (fr:=(0,0)) (heap_alloc_new w4 _)) (by simp[Value.oneCell']) Kb Kg Kb Kf (w4.heap.size+1) Kc ?_;intro g6 aT w6 bq aC cD iZ;have fe:=hd (zNe aC rP.o gN);obtain⟨s0,s1,s2,s3,s4,s5,s6,s7⟩:=zJ fe.o;have ja:=lt_of_block fe.o)))
      all_goals
       have HST:=hd (zXc HL.o cv.o aC (zSc HL.o.loop HM.o cv.o ny.o aC bq cD))
       clear aC bq cD s0 s1 s2 s3 s4 s5 s6 s7 r0 r1 r2 r3 r4 r5 r6 r7 hrow4 rP fe rQ cv ny p0 p1 p2 p3 g0 g1 g2 g3 c0 c1 c2 c3
       go_wp2_with fail
       go_meet
       exact⟨rfl,g6,aT,_,HST⟩
     case rest=>
      obtain⟨rfl,g6,aT,fJ,HST⟩:=hcut;clear p0 p1 p2 p3 g0 g1 g2 g3 c0 c1 c2 c3;go_wp2
      go_roundw
      case rel=>exact⟨k+1,g6,aT,fJ,by omega,by go_num,HST⟩
      case measure=>simp[intOf];omega
    ·obtain rfl:k=ks.length:=Kb;have gP:=HL.o.loop.o;have rR:=lt_of_block gP;obtain⟨p0,p1,p2,p3,_,_,_,_⟩:=zJ gP;clear gP;obtain⟨q0,q1,q2,q3,q4,q5,q6,q7⟩:=zJ HL.o.loop.res;have rS:=hd HL.o.loop.res;have hbr:=HL.o.loop.below;go_wp2
     have h7:=kD (a:=.bool lf) (b:=.slice (some ⟨gp,0,none⟩) ps.length cp) (c:=.slice (some ⟨gt,0,none⟩) tx.length ct) (d:=.slice (some ⟨gk,0,none⟩) ks.length cap) rS.o;obtain⟨t0,t1,t2,t3,_,_,_,_⟩:=zJ h7;refine bodyPost_ret (v:=.agg #[.bool lf,.slice (some ⟨gp,0,none⟩) ps.length cp,.slice (some ⟨gt,0,none⟩) tx.length ct,.slice (some ⟨gk,0,none⟩) ks.length cap]) (by simp[results,Tryz.results79,go_sem,t0,t1,t2,t3]) rfl ⟨_,rfl,kA3 HL.o ⟨HF.o.1,HF.o.2.1,HF.o.2.2.1,HF.o.2.2.2.1,cQ,hct⟩ Kc (fun b hb=>?_),?_⟩
     ·iterate 4 rw[Below.heap_setCell _ _ _ _ (by simpa using hb)]
     ·exact(((hbr.setCell (by show _<=w.heap.size+1;omega) _).setCell (by show _<=w.heap.size+1;omega) _).setCell (by show _<=w.heap.size+1;omega) _).setCell (by show _<=w.heap.size+1;omega) _
theorem kQ2 {P:Prop}(h:P:=by
 exact(((uC.setCell (by show _<=w.heap.size+1;omega) _).setCell (by show _<=w.heap.size+1;omega) _).setCell (by show _<=w.heap.size+1;omega) _).setCell (by show _<=w.heap.size+1;omega) _):P:=h
theorem zYx (d:Nat)(w:World)(v:Value)(n:NT)(hn:zV d w w.heap.size v n):Calls Tryz.prog 41 #[v] w (zPu (d-1) n w):=by
 have hn0:=hn;obtain⟨lf,PA,np,pc,TA,nt,tc,KA,nk,kc,rfl⟩:=hn.val;obtain⟨f0,j0⟩:∃f:Value,f=.func (.func 79) #[] #[.pointer (some ⟨w.heap.size+1+1,0,none⟩)]:=⟨_,rfl⟩;obtain⟨wa,ey⟩:∃wa,wa=((w.alloc (.cells #[.bool lf,.slice PA np pc,.slice TA nt tc,.slice KA nk kc] 26)).alloc (.cells #[.bool false,.slice none 0 0,.slice none 0 0,.slice none 0 0] 26)).alloc (.cells #[f0] 91):=⟨_,rfl⟩;have bK:Below w.heap.size w wa:=ey▸(kM Kk Kl).alloc Kf _;have ng:wa.cell? ⟨w.heap.size+1+1,0,none⟩=some f0:=by rw[ey,World.cell?_alloc_at _ _ _ _ Kc];rfl
 have hsa:wa.heap.size=w.heap.size+3:=by rw[ey];simp
 have uD:wa.heap[w.heap.size+1]? =some (.cells #[.bool false,.slice none 0 0,.slice none 0 0,.slice none 0 0] 26):=by
  rw[ey,Below.heap_alloc _ _ _ Kc];rw[<-sz1 (w:=w) (A:=.cells #[.bool lf,.slice PA np pc,.slice TA nt tc,.slice KA nk kc] 26)];exact heap_alloc_new _ _
 have HC:=hd (zV1 (w.heap.size+1+1) d wa _ _ (j0▸ng) (hn0.later bK));have HB:=hd bK;have HR:=hd uD;have HS:=hd hsa;subst ey j0;clear hn hn0 bK ng uD hsa;go_enter Tryz.func41,Tryz.ntmps41
 go_wp2_with(first|(refine HC.o.mono ?_;intro e w' h4;obtain⟨v4,rfl,dN,hb4⟩:=h4;obtain⟨lf4,aM,bf,aK,aN,bg,aL,aU,bh,aV,rfl⟩:=dN.val;have lL:=hd ((hb4.block (w.heap.size+1) (by rw[HS.o];omega)).trans HR.o);obtain⟨r0,r1,r2,r3,r4,r5,r6,r7⟩:=zJ lL.o;have ny:=hd dN;have cv:=hd hb4;clear dN hb4))
 have h7:=kD (a:=.bool lf4) (b:=.slice aM bf aK) (c:=.slice aN bg aL) (d:=.slice aU bh aV) lL.o;obtain⟨t0,t1,t2,t3,_,_,_,_⟩:=zJ h7;have hsz:=cv.o.size;rw[HS.o]at hsz;have uE:=ny.o;rw[HS.o]at uE;have uC:Below w.heap.size w w':=HB.o.trans (cv.o.mono (by rw[HS.o];omega));refine bodyPost_ret (v:=.agg #[.bool lf4,.slice aM bf aK,.slice aN bg aL,.slice aU bh aV]) (by simp[results,Tryz.results41,go_sem,t0,t1,t2,t3]) rfl ⟨_,rfl,(uE.keep Kc (fun b h1 _=>?_)).base Kb,?_⟩
 ·have hne:b≠w.heap.size+1:=Kb;iterate 4 rw[Below.heap_setCell _ _ _ _ (by simpa using hne)]
 ·exact kQ2
theorem zTs (l m:List Int)(K:Nat)(hK:K=kO l m)(h:K+1≠l.length∨¬K<m.length∨¬iAt l K<iAt m K):zFg l m=false:=by
 subst hK;cases h2:zFg l m
 ·rfl
 ·rw[zEe]at h2;omega
theorem kPb {P:Prop}(h:P:=by
 go_enter Tryz.func115,Tryz.ntmps115
 go_wp2_with(go_at_call 51;refine HC.o.mono ?_;rintro e w' ⟨rfl,kd,rfl⟩)
 go_quiet(fail)
 go_wp2
 go_ret
 exact kW (zA3 (by rw[HF.o])) Ki):P:=h
theorem kAs (A B:Option Addr)(l m:List Int)(c d:Nat)(w:World)(hl:l.length<=9223372036854775807)(hm:m.length<=9223372036854775807)(hp:IL w w.heap.size A l)(hq:IL w w.heap.size B m):
  Calls Tryz.prog 115 #[.slice A l.length c,.slice B m.length d] w (zHa (.bool (zFg l m)) w):=by
 have HC:=hd (zH5 A B l m c d w hl hm hp hq);have hN:=zHf l m;obtain⟨K,hK⟩:∃K,K=kO l m:=⟨_,rfl⟩;rw[<-hK]at HC hN;have HK:=hd hK;clear hK;have ws:IntKind.i64.wrap ((l.length:Int)-1)=(l.length:Int)-1:=IntWalk.i64_in _ Kb;by_cases h1:K+1=l.length
 ·have hx:((K:Int)==(l.length:Int)-1)=true:=by simp;omega
  by_cases h2:K<m.length
  ·obtain⟨b1,o1,rfl,aY,c1⟩:=hp.at_ (show K<l.length by omega);obtain⟨b2,o2,rfl,hl2,c2⟩:=hq.at_ h2;have h0:K<l.length:=Kb;by_cases h3:iAt l K<iAt m K
   ·have HF:=hd ((zEe l m).2 (by rw[<-HK.o];exact⟨h1,h2,h3⟩));clear hp hq hN h1;exact kPb
   ·have HF:=hd (zTs l m K HK.o (.inr (.inr h3)));have h3':decide (iAt l K<iAt m K)=false:=decide_eq_false h3;clear hp hq hN h1 h3;exact kPb
  ·have HF:=hd (zTs l m K HK.o (.inr (.inl h2)));have h2':decide (K<m.length)=false:=decide_eq_false h2;clear hp hq hN h1 h2;exact kPb
 ·have HF:=hd (zTs l m K HK.o (.inl h1));have hx:((K:Int)==(l.length:Int)-1)=false:=by simp;omega
  clear hp hq hN h1;exact kPb
theorem zJz {b' e e' s s' n n':Nat}{u:Value}{ys:List Value}(h:w.ownsRow b e s v n xs)(h':w.ownsRow b' e' s' u n' ys)(hne:e≠e'):u.ownBlock=none∨u.ownBlock≠v.ownBlock:=by
 rcases h'.2 with⟨rfl,_⟩|⟨g',cap',cur',rfl,_,hg',_⟩
 ·exact .inl rfl
 ·rcases h.2 with⟨rfl,_⟩|⟨g,cap,cur,rfl,_,hg,_⟩
  ·exact .inr (by simp[Value.ownBlock])
  ·refine .inr fun hh=>?_;simp only[Value.ownBlock,Option.some.injEq]at hh;rw[hh,hg]at hg';injection hg' with hg';injection hg' with _ h2;exact hne h2
theorem zBt.open_at {l:List Int}(h:zBt w b v l)(n:Nat)(hn:l.length=n):∃(A:Option Addr)(c:Nat),v=.slice A n c/\n<=c/\IL w w.heap.size A l:=by
 subst hn;obtain⟨A,c,h1,h2,_,h3⟩:=h.open_;exact⟨A,c,h1,h2,h3⟩
theorem zD6 (n:NT)(i:Int)(r:Bool)(hr:zOf n i=r)(d:Nat)(w:World)(v:Value)(hn:zV d w w.heap.size v n):
  Calls Tryz.prog 40 #[v,.int .i64 i] w (jA (.bool r) w):=by
 obtain⟨d',lf,ps,tx,ks,PA,pc,TA,tc,KA,kc,hd',rfl,rfl,hp,ht,hf,hks⟩:=hn.open_;have cj:=hf.2.2.2.1;have HB:=hd (show Below w.heap.size w (w.alloc (.cells #[.bool lf,.slice PA ps.length pc,.slice TA tx.length tc,.slice KA ks.length kc] 26))from Kk.alloc Kl _);have hr':(decide (0<=i)&&decide (i<ks.length))=r:=hr;clear hn hp ht hf hks hd' hr;by_cases h1:0<=i
 ·by_cases h2:i<ks.length
  ·have HF:=hd (show r=true by rw[<-hr'];simp[h1,h2]);clear hr';go_enter Tryz.func40,Tryz.ntmps40
   go_wp2
   go_ret
   exact⟨kC HF.o.symm,HB.o⟩
  ·have HF:=hd (show r=false by rw[<-hr'];simp[h2]);have h3:decide (i<(ks.length:Int))=false:=decide_eq_false h2;clear hr';go_enter Tryz.func40,Tryz.ntmps40
   go_wp2
   go_ret
   exact⟨kC HF.o.symm,HB.o⟩
 ·have HF:=hd (show r=false by rw[<-hr'];simp[h1]);have h3:decide (0<=i)=false:=decide_eq_false h1;clear hr';go_enter Tryz.func40,Tryz.ntmps40
  go_wp2
  go_ret
  exact⟨kC HF.o.symm,HB.o⟩
def zP2 (r:NT×Int)(w:World)(e:Ending)(w':World):Prop:=
 ∃v d,e=.returned (.tuple #[v,.int .i64 r.2])/\zAx (fun b=>w.heap.size<=b/\b<w'.heap.size) d w' v r.1/\Below w.heap.size w w'
theorem zJv {e:Int}(h:r=(n,e))(ht:zAx (fun b=>w.heap.size<=b/\b<w'.heap.size) d w' v n)(hb:Below w.heap.size w w'):zP2 r w (.returned (.tuple #[v,.int .i64 e])) w':=by
 subst h;exact⟨v,d,rfl,ht,hb⟩
structure zM2 (w:World)(d:Nat)(n:NT)(p:List Int)(k:Nat)(lf:Bool)(PA:Option Addr)(np pc:Nat)(TA:Option Addr)(nt tc:Nat)(KA:Option Addr)(nk kc:Nat)(m:NT)(wr:World):Prop where
 below:Below w.heap.size w wr
 res:wr.heap[w.heap.size+1]? =some (.cells #[.bool false,.slice none 0 0,.slice none 0 0,.slice none 0 0] 26 (0,0))
 var:wr.heap[w.heap.size]? =some (.cells #[.bool lf,.slice PA np pc,.slice TA nt tc,.slice KA nk kc] 26 (0,0))
 at_:kB n (p.take k)=some m
 node:zV d wr w.heap.size (.agg #[.bool lf,.slice PA np pc,.slice TA nt tc,.slice KA nk kc]) m
theorem zBj (w:World)(a b c d:Value)(t:TypeId)(a' b' c' d':Value)(t':TypeId):
  ((w.alloc (.cells #[a,b,c,d] t)).alloc (.cells #[a',b',c',d'] t')).heap[w.heap.size]? =some (.cells #[a,b,c,d] t (0,0))/\((w.alloc (.cells #[a,b,c,d] t)).alloc (.cells #[a',b',c',d'] t')).heap[w.heap.size+1]? =some (.cells #[a',b',c',d'] t' (0,0)):=by
 refine⟨?_,?_⟩
 ·rw[Below.heap_alloc _ _ _ Kc];exact heap_alloc_new _ _
 ·rw[<-sz1 (w:=w) (A:=.cells #[a,b,c,d] t)];exact heap_alloc_new _ _
theorem zRv {lf:Bool}{PA:Option Addr}(hn:zV d w w.heap.size (.agg #[.bool lf,.slice PA np pc,.slice TA nt tc,.slice KA nk kc]) n):
  zM2 w d n p 0 lf PA np pc TA nt tc KA nk kc n ((w.alloc (.cells #[.bool lf,.slice PA np pc,.slice TA nt tc,.slice KA nk kc] 26)).alloc (.cells #[.bool false,.slice none 0 0,.slice none 0 0,.slice none 0 0] 26)):=by
 have hb:=kM (w:=w) (w':=w) (o:=(.cells #[.bool lf,.slice PA np pc,.slice TA nt tc,.slice KA nk kc] 26)) (o':=(.cells #[.bool false,.slice none 0 0,.slice none 0 0,.slice none 0 0] 26)) Kk (Nat.le_refl w.heap.size);obtain⟨h1,h2⟩:=zBj w (.bool lf) (.slice PA np pc) (.slice TA nt tc) (.slice KA nk kc) 26 (.bool false) (.slice none 0 0) (.slice none 0 0) (.slice none 0 0) 26;exact⟨hb,h2,h1,rfl,hn.below hb⟩
theorem zU8 {m m2:NT}{lf:Bool}{PA:Option Addr}{lf2:Bool}{eJ:Option Addr}{eK eN:Nat}{eP:Option Addr}{eQ eT:Nat}{eU:Option Addr}{eV kc2:Nat}
  (h:zM2 w d n p k lf PA np pc TA nt tc KA nk kc m wr) (hb:Below wr.heap.size wr w2) (hm:kB n (p.take (k+1))=some m2) (hn:zV d w2 w.heap.size (.agg #[.bool lf2,.slice eJ eK eN,.slice eP eQ eT,.slice eU eV kc2]) m2):
  zM2 w d n p (k+1) lf2 eJ eK eN eP eQ eT eU eV kc2 m2 ((((w2.setCell ⟨w.heap.size,0,none⟩ (.bool lf2)).setCell ⟨w.heap.size,1,none⟩ (.slice eJ eK eN)).setCell ⟨w.heap.size,2,none⟩ (.slice eP eQ eT)).setCell ⟨w.heap.size,3,none⟩ (.slice eU eV kc2)):=by
 have hs:=h.below.size;have hb2:Below w.heap.size w w2:=h.below.trans (hb.mono hs);have aJ:Below w.heap.size w ((((w2.setCell ⟨w.heap.size,0,none⟩ (.bool lf2)).setCell ⟨w.heap.size,1,none⟩ (.slice eJ eK eN)).setCell ⟨w.heap.size,2,none⟩ (.slice eP eQ eT)).setCell ⟨w.heap.size,3,none⟩ (.slice eU eV kc2)):=(((hb2.setCell Kl _).setCell Kl _).setCell Kl _).setCell Kl _;have rT:Below w.heap.size w2 ((((w2.setCell ⟨w.heap.size,0,none⟩ (.bool lf2)).setCell ⟨w.heap.size,1,none⟩ (.slice eJ eK eN)).setCell ⟨w.heap.size,2,none⟩ (.slice eP eQ eT)).setCell ⟨w.heap.size,3,none⟩ (.slice eU eV kc2)):=((((Below.refl w.heap.size w2).setCell Kl _).setCell Kl _).setCell Kl _).setCell Kl _;refine⟨aJ,?_,kD ((hb.block _ (lt_of_block h.var)).trans h.var),hm,hn.below rT⟩;iterate 4 rw[Below.heap_setCell _ _ _ _ (by show w.heap.size+1≠w.heap.size;omega)]
 exact(hb.block _ (lt_of_block h.res)).trans h.res
def zV2 (r:NT×Int)(w:World)(e:Ending)(w':World):Prop:=
 ∃v d,e=.returned (.tuple #[v,.int .i64 r.2])/\zTz w.heap.size d w' v r.1/\Below w.heap.size w w'
theorem zQz {e:Int}(h:r=(n,e))(ht:zTz w.heap.size d w' v n)(hb:Below w.heap.size w w'):zV2 r w (.returned (.tuple #[v,.int .i64 e])) w':=by
 subst h;exact⟨v,d,rfl,ht,hb⟩
theorem zYy (base d:Nat)(w:World):zTz base d w (.agg #[.bool false,.slice none 0 0,.slice none 0 0,.slice none 0 0]) zeroT:=
 ⟨none,0,none,0,none,0,[],rfl,World.ownsRow_nil _ _ _ _,World.ownsRow_nil _ _ _ _,World.ownsRow_nil _ _ _ _,zPl,rfl,fun j m h=>by simp[zeroT,NT.ks]at h⟩
theorem zYz (d:Nat)(w:World)(v:Value)(n:NT)(A:Option Addr)(p:List Int)(lp c:Nat)(aO:p.length=lp)(hl:lp<=10000000)(hn:zV d w w.heap.size v n)(hp:IL w w.heap.size A p):
  Calls Tryz.prog 15 #[v,.slice A lp c] w (zV2 (zGm n p) w):=by
 obtain⟨lf,PA,np,pc,TA,nt,tc,KA,nk,kc,rfl⟩:=hn.val;have o9:=hd (zRv (p:=p) hn);have HP:=hd hp;have gB:=hd aO;clear hn hp aO;go_enter Tryz.func15,Tryz.ntmps15
 go_wp2
 go_loopw [10] (fun i wr=>∃(k:Nat)(lf:Bool)(PA:Option Addr)(np pc:Nat)(TA:Option Addr)(nt tc:Nat)(KA:Option Addr)(nk kc:Nat)(m:NT),k<=lp/\i=.int .i64 k/\Kq (zM2 w d n p k lf PA np pc TA nt tc KA nk kc m wr)) (fun i _=>lp-(intOf i).toNat)
 case atStart=>exact⟨0,_,_,_,_,_,_,_,_,_,_,n,Nat.zero_le _,rfl,o9⟩
 case round=>
  clear o9;obtain⟨k,lf,PA,np,pc,TA,nt,tc,KA,nk,kc,m,hk,rfl,HL⟩:=hrel;have hbr:=HL.o.below;have hsz:=hbr.size;obtain⟨x0,x1,x2,x3,y0,y1,y2,y3⟩:=zJ HL.o.var;obtain⟨z0,z1,z2,z3,f0,f1,f2,f3⟩:=zJ HL.o.res;have aY:=lt_of_block HL.o.res;by_cases hlt:k<lp
  ·obtain⟨b,o,rfl,hbl,hc⟩:=(HP.o.below hbr).at_ (k:=k) (by rw[gB.o];exact hlt);obtain⟨i,hi⟩:∃i,iAt p k=i:=⟨_,rfl⟩;rw[hi]at hc;have dV:=HL.o.node;obtain⟨d',lf',ps,tx,ks,PA',pc',TA',tc',KA',kc',hd',hm',ev,hps,htx,hfit,hks⟩:=dV.open_;simp only[Value.agg.injEq,Array.mk.injEq,List.cons.injEq,Value.bool.injEq,Value.slice.injEq,and_true]at ev;obtain⟨rfl,⟨rfl,rfl,rfl⟩,⟨rfl,rfl,rfl⟩,rfl,rfl,rfl⟩:=ev;have cj:=hfit.2.2.2.1;cases hb:zOf m i
   ·have HE:=hd (zB2 (zRy (by rw[gB.o];exact hlt) HL.o.at_ (by rw[hi];exact zJx hb)));have HC:=hd (zD6 m i false hb d wr _ ((dV.more hsz)));have cu:=hd hbr;have bW:=hd HL.o.res;have fE:m.ks.length=ks.length:=by rw[hm'];rfl
    have hno:i<0∨0<=i/\(ks.length:Int)<=i:=by
     rcases(show i<0∨0<=i by omega)with h|h
     ·exact .inl h
     ·refine .inr ⟨h,?_⟩;rcases(show(ks.length:Int)<=i∨i<ks.length by omega)with h2|h2
      ·exact h2
      ·rw[zEx.2 ⟨h,by rw[fE];exact h2⟩]at hb;cases hb
    clear dV hps htx hfit hks hb hi hm' hd' hbr fE;rcases hno with g1|⟨g1,g2⟩;all_goals
     go_wp2_with(first|(go_at_call 40;refine HC.o.mono ?_;rintro e w2 ⟨rfl,b2⟩;have bN:=hd (kI bW.o b2);have hl2:=b2.size;obtain⟨r0,r1,r2,r3,r4,r5,r6,r7⟩:=zJ bN.o))
     have h7:=kD (a:=.bool false) (b:=.slice none 0 0) (c:=.slice none 0 0) (d:=.slice none 0 0) (by first|exact bN.o|exact bW.o)
     obtain⟨t0,t1,t2,t3,_,_,_,_⟩:=zJ h7
     refine bodyPost_ret (v:=.tuple #[.agg #[.bool false,.slice none 0 0,.slice none 0 0,.slice none 0 0],.int .i64 5]) (by simp[results,Tryz.results15,go_sem,t0,t1,t2,t3]) rfl (zQz HE.o (zYy _ 0 _) ?_)
     exact((((show Below w.heap.size w _ from(by first|exact cu.o.trans (b2.mono cu.o.size)|exact cu.o)).setCell (by show _<=w.heap.size+1;omega) _).setCell (by show _<=w.heap.size+1;omega) _).setCell (by show _<=w.heap.size+1;omega) _).setCell (by show _<=w.heap.size+1;omega) _
   ·have HK:=hd (zEx.1 hb);obtain⟨j,hj⟩:∃j:Nat,i=(j:Int):=⟨i.toNat,by have:=HK.o;omega⟩;subst hj;have lM:j<ks.length:=by have:=HK.o;rw[hm']at this;simp only[NT.ks]at this;omega
    have HC:=hd (zD6 m (j:Int) true hb d wr _ ((dV.more hsz)));have bJ:=hd hks;have HI:=hd hi;have HM:=hd hm';have HD:=hd hd';have cu:=hd hbr;clear dV hps htx hfit hks hb hi hm' hd' z0 z1 z2 z3 f0 f1 f2 f3 hbr;have rU:=hd HL.o.var;obtain⟨m2,b',o',lf2,eJ,eK,eN,eP,eQ,eT,eU,eV,kc2,hm2,rfl,oD,dW,c0,c1,c2,c3⟩:=bJ.o.at_ lM;have hg:=hd (show kB n (p.take (k+1))=some m2 by rw[zFv (by rw[gB.o];exact hlt) HL.o.at_,HI.o];unfold zBh;rw[if_pos Kb,HM.o];exact hm2);have nz:=hd (dW.deep (d':=d) (by have:=HD.o;omega));have lF:=hd hm2;clear dW hm2;go_wp2_with(first|(go_at_call 40;refine HC.o.mono ?_;rintro e w2 ⟨rfl,b2⟩;have hl2:=b2.size;obtain⟨u0,u1,u2,u3,u4,u5,u6,u7⟩:=zJ (kI rU.o b2);have e0:=(b2.cell (kQ c0)).trans c0;have e1:=(b2.cell (kQ c1)).trans c1;have e2:=(b2.cell (kQ c2)).trans c2;have e3:=(b2.cell (kQ c3)).trans c3;clear c0 c1 c2 c3 x0 x1 x2 x3 y0 y1 y2 y3))
    go_roundw
    case rel=>exact⟨k+1,_,_,_,_,_,_,_,_,_,_,m2,by omega,by go_num,hd (zU8 HL.o (by first|exact b2|exact Below.refl _ _) hg.o (by first|exact nz.o.below (b2.mono hsz)|exact nz.o))⟩
    case measure=>simp[intOf];omega
  ·have HE:=hd (kP (n:=n) (m:=m) (p:=p) (by have:=HL.o.at_;rwa[List.take_of_length_le (by rw[gB.o];omega)]at this));have bW:=hd HL.o.res;have cu:=hd hbr;have HN:=hd (HL.o.node.more hsz);clear z0 z1 z2 z3 f0 f1 f2 f3 hbr;go_wp2_with(first|(go_at_call 41;refine Calls.mono (zYx _ _ _ _ HN.o) ?_;intro e w4 h4;obtain⟨v4,rfl,dN,hb4⟩:=h4;obtain⟨lf4,aM,bf,aK,aN,bg,aL,aU,bh,aV,rfl⟩:=dN.val;have lL:=hd (kI bW.o hb4);obtain⟨r0,r1,r2,r3,r4,r5,r6,r7⟩:=zJ lL.o;have ny:=hd dN;have cv:=hd hb4;have hl4:=hb4.size;clear dN hb4))
   have h7:=kD (a:=.bool lf4) (b:=.slice aM bf aK) (c:=.slice aN bg aL) (d:=.slice aU bh aV) lL.o;obtain⟨t0,t1,t2,t3,_,_,_,_⟩:=zJ h7;have uC:Below w.heap.size w w4:=cu.o.trans (cv.o.mono cu.o.size);refine bodyPost_ret (v:=.tuple #[.agg #[.bool lf4,.slice aM bf aK,.slice aN bg aL,.slice aU bh aV],.int .i64 0]) (by simp[results,Tryz.results15,go_sem,t0,t1,t2,t3]) rfl (zQz HE.o ((ny.o.keep Kc (fun b h1 _=>?_)).base Kb) ?_)
   ·have hne:b≠w.heap.size+1:=Kb;iterate 4 rw[Below.heap_setCell _ _ _ _ (by simpa using hne)]
   ·exact kQ2
theorem zEy (d:Nat)(w:World)(v:Value)(n:NT)(hn:zV d w w.heap.size v n):Calls Tryz.prog 41 #[v] w (zVf d n w):=by
 cases d with
 |zero=>exact hn.elim
 |succ d=>exact(zYx _ _ _ _ hn).mono fun _ _ h=>h.copied
theorem zU9 (d:Nat)(w:World)(v:Value)(n:NT)(A:Option Addr)(p:List Int)(lp c:Nat)(aO:p.length=lp)(hl:lp<=10000000)(hn:zV d w w.heap.size v n)(hp:IL w w.heap.size A p):
  Calls Tryz.prog 15 #[v,.slice A lp c] w (zP2 (zGm n p) w):=
 (zYz d w v n A p lp c aO hl hn hp).mono fun _ _⟨v,d,h1,h2,h3⟩=>⟨v,d+1,h1,h2.tree,h3⟩
