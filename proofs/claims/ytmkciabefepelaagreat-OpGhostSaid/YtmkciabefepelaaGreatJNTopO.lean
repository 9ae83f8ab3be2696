import Derived.Test.YtmkciabefepelaaGreatJTRow
set_option maxRecDepth 100000
set_option maxHeartbeats 8000000
namespace Go.Proofs.YtmkciabefepelaaGreat
open Go.RowKit
open Go.WideShapes (add_plain)
variable {w w' w3 wr:World}{base' cap cp d g gO gk:Nat}{t:TypeId}{v:Value}{n:NT}{us xs:List Value}{cs:Array Value}{fr:Nat×Nat}{gp gt:Option Addr}{e:Ending}
theorem zBy {base:Nat}{size:Nat}{n:Nat}(h:w.ownsRow base t size v n xs)(hb:base'<=base):w.ownsRow base' t size v n xs:=by
 refine⟨h.1,?_⟩;rcases h.2 with e|⟨g,cap,cur,e,hg,rest⟩
 ·exact .inl e
 ·exact .inr ⟨g,cap,cur,e,by omega,rest⟩
def zGj (w w':World):Prop:=∀b,b<w.heap.size->(∀cs fr,w.heap[b]? ≠some (.cells cs 26 fr))->w'.heap[b]? =w.heap[b]?
theorem zCs {base:Nat}{size:Nat}{n:Nat}(h:w.ownsRow base t size v n xs)(ht:t≠26)(hk:zGj w w'):w'.ownsRow base t size v n xs:=by
 refine⟨h.1,?_⟩;rcases h.2 with e|⟨g,cap,cur,e,hg,hh,rest⟩
 ·exact .inl e
 ·refine .inr ⟨g,cap,cur,e,hg,(hk g (lt_of_block hh) fun cs fr e2=>?_).trans hh,rest⟩;rw[hh]at e2;injection e2 with e2;injection e2 with _ e3;exact ht e3
theorem zGj.of_below (h:Below w.heap.size w w'):zGj w w':=fun b hb _=>h.block b hb
theorem zGj.of_but (hg:w.heap[g]? =some (.cells cs 26 fr))(h:∀b,b≠g->b<w.heap.size->w'.heap[b]? =w.heap[b]?):zGj w w':=fun b hb hn=>h b (fun e=>hn cs fr (e▸hg)) hb
structure PT (w:World)(base:Nat)(gp:Option Addr)(cp:Nat)(gt:Option Addr)(ct:Nat)(ps:List Pr)(tx:List Int):Prop where
 p:w.ownsRow base 94 2 (.slice gp ps.length cp) ps.length (pv ps)
 t:w.ownsRow base 21 1 (.slice gt tx.length ct) tx.length (rv tx)
theorem PT.keep {base:Nat}{ct:Nat}{ps:List Pr}{tx:List Int}(h:PT w base gp cp gt ct ps tx)(hk:zGj w w'):PT w' base gp cp gt ct ps tx:=
 ⟨zCs h.p Kd hk,zCs h.t Kd hk⟩
def zVd (t:TypeId)(size n:Nat)(xs:List Value)(w:World)(e:Ending)(w':World):Prop:=
 ∃g c,e=.returned (.slice (some ⟨g,0,none⟩) n c)/\w'.ownsRow w.heap.size t size (.slice (some ⟨g,0,none⟩) n c) n xs/\Below w.heap.size w w'
theorem zVd.vp {size n:Nat}(h:zVd t size n xs w e w'):∃g c,e=.returned (.slice (some ⟨g,0,none⟩) n c)/\VP (fun b=>w.heap.size<=b/\b<w'.heap.size) w' (some ⟨g,0,none⟩) xs/\Below w.heap.size w w'/\n<=c/\w'.ownsRow w.heap.size t size (.slice (some ⟨g,0,none⟩) n c) n xs:=by
 obtain⟨g,c,e,h1,h2⟩:=h;exact⟨g,c,e,zIr h1,h2,zPm h1,h1⟩
theorem zTx (A:Option Addr)(ps:List Pr)(c:Nat)(w:World)(hl:ps.length<=4398046511104)(hp:PL w w.heap.size A ps):Calls Tryz.prog 125 #[.slice A ps.length c] w (zVd 94 2 ps.length (pv ps) w):=by
 obtain⟨cs,hcs,hmk⟩:=zGt zZh ps.length Kb Kb;have hv:VL w w.heap.size A (pv ps):=hp.vl;have HV:=hd hv;have iJ:=hd hcs;clear hp hv hcs;go_enter Tryz.func125,Tryz.ntmps125
 go_wp2_with(at_builtin;refine zBr zZh _ rfl (.tmp 5) (.tmp 6) rfl w.heap.size (.slice (some ⟨w.heap.size,0,none⟩) 0 ps.length) 0 [] rfl (World.ownsRow_made w cs ps.length Km Kg iJ.o) A ps.length c w.heap.size (pv ps) rfl (by rw[zN8]<;>omega) (HV.o.below (Kl.alloc Km _)) (zZg ps) Kg Kb Kc rfl ?_;intro g cap w1 aN hg1)
 go_ret
 rw[Nat.zero_add,List.nil_append]at aN;exact⟨g,cap,rfl,aN,(Kl.alloc Km _).grown hg1 Kc (fun j hj=>by simp[Value.ownBlock]at hj;omega)⟩
theorem zTy (A:Option Addr)(ps:List Int)(c:Nat)(w:World)(hl:ps.length<=35184372088832)(hp:VL w w.heap.size A (rv ps)):Calls Tryz.prog 126 #[.slice A ps.length c] w (zVd 21 1 ps.length (rv ps) w):=by
 obtain⟨cs,hcs,hmk⟩:=zGt zTa ps.length Kb Kb;have hv:VL w w.heap.size A (rv ps):=hp;have HV:=hd hv;have iJ:=hd hcs;clear hp hv hcs;go_enter Tryz.func126,Tryz.ntmps126
 go_wp2_with(at_builtin;refine zBr zTa _ rfl (.tmp 5) (.tmp 6) rfl w.heap.size (.slice (some ⟨w.heap.size,0,none⟩) 0 ps.length) 0 [] rfl (World.ownsRow_made w cs ps.length Km Kg iJ.o) A ps.length c w.heap.size (rv ps) rfl (by rw[zCg]<;>omega) (HV.o.below (Kl.alloc Km _)) (zNz ps) Kg Kb Kc rfl ?_;intro g cap w1 aN hg1)
 go_ret
 rw[Nat.zero_add,List.nil_append]at aN;exact⟨g,cap,rfl,aN,(Kl.alloc Km _).grown hg1 Kc (fun j hj=>by simp[Value.ownBlock]at hj;omega)⟩
def zTz (base d:Nat)(w:World)(v:Value)(n:NT):Prop:=
 ∃(PA:Option Addr)(pc:Nat)(TA:Option Addr)(tc:Nat)(KA:Option Addr)(kc:Nat)(us:List Value),v=.agg #[.bool n.lf,.slice PA n.ps.length pc,.slice TA n.tx.length tc,.slice KA n.ks.length kc]/\w.ownsRow base 94 2 (.slice PA n.ps.length pc) n.ps.length (pv n.ps)/\w.ownsRow base 21 1 (.slice TA n.tx.length tc) n.tx.length (rv n.tx)/\
  w.ownsRow base 26 4 (.slice KA n.ks.length kc) n.ks.length (zGg us)/\zU0 n.ps n.tx.length n.ks.length pc tc kc/\us.length=n.ks.length/\∀(j:Nat)(m:NT),n.ks[j]? =some m->∃u,us[j]? =some u/\zAx (fun b=>base<=b/\b<w.heap.size/\some b≠(Value.slice KA 0 0).ownBlock) d w u m
theorem zTz.base {base:Nat}(h:zTz base d w v n)(hb:base'<=base):zTz base' d w v n:=by
 obtain⟨PA,pc,TA,tc,KA,kc,us,e,hp,ht,hk,hf,hl,hks⟩:=h;exact⟨PA,pc,TA,tc,KA,kc,us,e,zBy hp hb,zBy ht hb,zBy hk hb,hf,hl,fun j m hm=>by
  obtain⟨u,h1,h2⟩:=hks j m hm;exact⟨u,h1,h2.keep (fun b hb2=>⟨by omega,hb2.2⟩) (fun _ _=>⟨rfl,rfl⟩)⟩⟩
theorem zA8 {base:Nat}{size:Nat}{n:Nat}(h:w.ownsRow base t size v n xs)(hk:∀b,base<=b->b<w.heap.size->w'.heap[b]? =w.heap[b]?):w'.ownsRow base t size v n xs:=by
 refine⟨h.1,?_⟩;rcases h.2 with e|⟨g,cap,cur,e,hg,hh,rest⟩
 ·exact .inl e
 ·exact .inr ⟨g,cap,cur,e,hg,(hk g hg (lt_of_block hh)).trans hh,rest⟩
theorem zTz.keep {base:Nat}(h:zTz base d w v n)(hs:w.heap.size<=w'.heap.size)(hk:∀b,base<=b->b<w.heap.size->w'.heap[b]? =w.heap[b]?):zTz base d w' v n:=by
 obtain⟨PA,pc,TA,tc,KA,kc,us,e,hp,ht,hkk,hf,hl,hks⟩:=h;exact⟨PA,pc,TA,tc,KA,kc,us,e,zA8 hp hk,zA8 ht hk,zA8 hkk hk,hf,hl,fun j m hm=>by
  obtain⟨u,h1,h2⟩:=hks j m hm;exact⟨u,h1,h2.keep (fun b hb2=>⟨hb2.1,by omega,hb2.2.2⟩) (fun p hp=>⟨World.cell?_of_block (hk _ hp.1 hp.2.1),World.frozen?_of_block (hk _ hp.1 hp.2.1)⟩)⟩⟩
theorem zTz.val {base:Nat}(h:zTz base d w v n):∃lf PA np pc TA nt tc KA nk kc,v=.agg #[.bool lf,.slice PA np pc,.slice TA nt tc,.slice KA nk kc]:=by
 obtain⟨PA,pc,TA,tc,KA,kc,us,e,_⟩:=h;exact⟨_,_,_,_,_,_,_,_,_,_,e⟩
theorem zTz.tree {base:Nat}(h:zTz base d w v n):zAx (fun b=>base<=b/\b<w.heap.size) (d+1) w v n:=by
 obtain⟨PA,pc,TA,tc,KA,kc,us,e,hp,ht,hkk,hf,hl,hks⟩:=h;refine⟨PA,pc,TA,tc,KA,kc,e,zIr hp,zIr ht,hf,fun k m hm=>?_⟩;have hfree:=zIr hkk;have h4:∀x ∈ us,x.cells.size=4:=fun x hx=>by
  obtain⟨j,hj,rfl⟩:=List.mem_iff_getElem.1 hx;obtain⟨u,hu,ht⟩:=hks j _ (List.getElem?_eq_getElem (by rw[<-hl];exact hj));rw[List.getElem?_eq_getElem hj]at hu;injection hu with hu;obtain⟨c0,c1,c2,c3,e⟩:=ht.four;rw[hu,e];rfl
 obtain⟨u,hu,htr⟩:=hks k m hm;obtain⟨c0,c1,c2,c3,e4⟩:=htr.four;have hc:=fun i c hi=>hfree (k*4+i) c (zJ5 us k u c0 c1 c2 c3 h4 hu e4 i c hi);obtain⟨g,o,hg,hgb,hc0⟩:=hc 0 c0 rfl;subst hg;have hc':∀i c,[c0,c1,c2,c3][i]? =some c->kKa w g (o+(k*4+i)) c:=fun i c hi=>by
  obtain⟨g',o',e',_,h5⟩:=hc i c hi;injection e' with e';injection e' with e1 e2;subst e1 e2;exact h5
 refine⟨g,o,u,rfl,hgb,htr.keep (fun b hb=>⟨hb.1,hb.2.1⟩) (fun _ _=>⟨rfl,rfl⟩),⟨c0,c1,c2,c3,e4,?_,?_,?_,?_⟩,?_⟩
 ·exact(hc' 0 c0 rfl).1
 ·exact(hc' 1 c1 rfl).1
 ·exact(hc' 2 c2 rfl).1
 ·exact(hc' 3 c3 rfl).1
 ·exact(hc' 0 c0 rfl).2
def zPu (d:Nat)(n:NT)(w:World)(e:Ending)(w':World):Prop:=
 ∃v,e=.returned v/\zTz w.heap.size d w' v n/\Below w.heap.size w w'
theorem zPu.copied (h:zPu d n w e w'):zVf (d+1) n w e w':=by
 obtain⟨v,h1,h2,h3⟩:=h;exact⟨v,h1,h2.tree,h3⟩
def kFt (w:World)(lf:Bool)(ps:List Pr)(tx:List Int)(kids:Value)(s4:Value)(wx:World):Prop:=
 ∃gO gp cp gt ct,s4=.pointer (some ⟨gO,0,none⟩)/\Below w.heap.size w wx/\wx.heap[w.heap.size+1]? =some (.cells #[.bool false,.slice none 0 0,.slice none 0 0,.slice none 0 0] 26)/\w.heap.size+2<=gO/\wx.cell? ⟨w.heap.size,3,none⟩=some kids/\
  wx.heap[gO]? =some (.cells #[.bool lf,.slice (some ⟨gp,0,none⟩) ps.length cp,.slice (some ⟨gt,0,none⟩) tx.length ct,.slice none 0 0] 26 (0,0))/\
  VP (fun b=>w.heap.size+2<=b/\b<wx.heap.size/\b≠gO) wx (some ⟨gp,0,none⟩) (pv ps)/\VP (fun b=>w.heap.size+2<=b/\b<wx.heap.size/\b≠gO) wx (some ⟨gt,0,none⟩) (rv tx)/\ps.length<=cp/\tx.length<=ct/\PT wx (w.heap.size+2) (some ⟨gp,0,none⟩) cp (some ⟨gt,0,none⟩) ct ps tx
theorem zNb {lf:Bool}{ps:List Pr}{tx:List Int}{kids s4:Value}{wx:World}{gp gt ct:Nat}{k0:Value}(h:kEw w lf ps tx kids s4 wx)(e:s4=.pointer (some ⟨gO,0,none⟩))(hO:wx.heap[gO]? =some (.cells #[.bool lf,.slice (some ⟨gp,0,none⟩) ps.length cp,.slice (some ⟨gt,0,none⟩) tx.length ct,k0] 26 fr))(hpt:PT w3 (w.heap.size+2) (some ⟨gp,0,none⟩) cp (some ⟨gt,0,none⟩) ct ps tx)(hk:zGj w3 wx):kFt w lf ps tx kids s4 wx:=by
 obtain⟨gO',gp',cp',gt',ct',e',h2,h3,h4,h5,h6,h7,h8,h9,h10⟩:=h;have eO:gO'=gO:=by rw[e]at e';injection e' with e';injection e' with e';injection e' with e';exact e'.symm
 subst eO;rw[hO]at h6;simp only[Option.some.injEq,Obj.cells.injEq,Array.mk.injEq,List.cons.injEq,Value.slice.injEq,Addr.mk.injEq,and_true,true_and]at h6;obtain⟨⟨⟨e1,e2⟩,⟨e3,e4⟩,e5⟩,e6⟩:=h6;subst e1 e2 e3 e4 e5 e6;exact⟨_,_,_,_,_,e,h2,h3,h4,h5,hO,h7,h8,h9,h10,hpt.keep hk⟩
theorem zT0 {W W' w2:World}{ps:List Pr}{tx:List Int}{ct:Nat}(op:w2.ownsRow W.heap.size 94 2 (.slice gp ps.length cp) ps.length (pv ps))(ot:w3.ownsRow W'.heap.size 21 1 (.slice gt tx.length ct) tx.length (rv tx))(hb:Below w2.heap.size w2 w3)(hW:w.heap.size+2<=W.heap.size)(hW':w.heap.size+2<=W'.heap.size):PT w3 (w.heap.size+2) gp cp gt ct ps tx:=
 ⟨zBy (zA8 op fun b _ hl=>hb.block b hl) hW,zBy ot hW'⟩
theorem zOj {a b c d:Value}(h:w.heap[g]? =some (.cells cs 26 fr)):zGj w ((((w.setCell ⟨g,0,none⟩ a).setCell ⟨g,1,none⟩ b).setCell ⟨g,2,none⟩ c).setCell ⟨g,3,none⟩ d):=
 zGj.of_but h fun k hk _=>by iterate 4 rw[Below.heap_setCell _ _ _ _ (by simpa using hk)]
structure zGk (w:World)(d:Nat)(lf:Bool)(ps:List Pr)(tx:List Int)(ks:List NT)(gO gp cp gt ct k gk cap:Nat)(us:List Value)(wr:World):Prop where
 loop:zFs w d lf ps tx ks gO gp cp gt ct k gk cap us wr
 pt:PT wr (w.heap.size+2) (some ⟨gp,0,none⟩) cp (some ⟨gt,0,none⟩) ct ps tx
theorem zGj.trans {a b c:World}(h:zGj a b)(k:zGj b c)(hs:a.heap.size<=b.heap.size):zGj a c:=fun x hx hn=>by
 have h1:=h x hx hn;exact(k x Kb (fun cs fr e=>hn cs fr (h1.symm.trans e))).trans h1
theorem zXc {w4 w6:World}{lf:Bool}{ps:List Pr}{tx:List Int}{ks:List NT}{gp gt ct k g6 aU:Nat}{f4:List Value}{o o1:Obj}{x:Value}(h:zGk w d lf ps tx ks gO gp cp gt ct k gk cap us wr)
  (hb4:Below (wr.alloc o).drew.heap.size (wr.alloc o).drew w4) (hgrow:(w4.alloc o1).grownBy w6 (some gk)) (hst:zFs w d lf ps tx ks gO gp cp gt ct (k+1) g6 aU f4 (w6.setCell ⟨gO,3,none⟩ x)):zGk w d lf ps tx ks gO gp cp gt ct (k+1) g6 aU f4 (w6.setCell ⟨gO,3,none⟩ x):=by
 refine⟨hst,h.pt.keep fun b hb hn=>?_⟩;obtain⟨hs4,cS⟩:=zIk hb4;have e5:(w4.alloc o1).heap.size=w4.heap.size+1:=sz1;have hne:b≠gO:=fun e=>hn _ _ (e▸h.loop.o);have iZ:b≠gk:=fun e=>by
  rcases h.loop.row.2 with⟨e1,_⟩|⟨g',cap',cur,e1,_,hh,_⟩
  ·cases e1
  ·injection e1 with e1;injection e1 with e1;injection e1 with e1;exact hn _ _ (e▸e1▸hh)
 rw[Below.heap_setCell _ _ _ _ (by simpa using hne),hgrow.block b (by rw[e5];omega) (by intro e;injection e with e;exact iZ e),Below.heap_alloc _ _ _ Kb,cS b hb]
theorem kA3 {w7:World}{lf:Bool}{ps:List Pr}{tx:List Int}{ks:List NT}{gp gt ct:Nat}(hh:zGk w d lf ps tx ks gO gp cp gt ct ks.length gk cap us wr)(hf:zIo ps/\ps.length<=4398046511104/\tx.length<=35184372088832/\ks.length<=1759218604441/\ps.length<=cp/\tx.length<=ct)(hs:wr.heap.size<=w7.heap.size)
  (h7:∀b,b≠w.heap.size+1->w7.heap[b]? =wr.heap[b]?):
  zTz w.heap.size d w7 (.agg #[.bool lf,.slice (some ⟨gp,0,none⟩) ps.length cp,.slice (some ⟨gt,0,none⟩) tx.length ct,.slice (some ⟨gk,0,none⟩) ks.length cap]) (.mk lf ps tx ks):=by
 have h:=hh.loop;have oZ:∀b,w.heap.size+2<=b->b<wr.heap.size->w7.heap[b]? =wr.heap[b]? :=fun b h1 _=>h7 b Kb;have hrow:=zA8 h.row oZ;refine⟨_,_,_,_,_,_,us,rfl,zBy (zA8 hh.pt.p oZ) Kb,zBy (zA8 hh.pt.t oZ) Kb,zBy hrow Kb,⟨hf.1,hf.2.1,hf.2.2.1,hf.2.2.2.1,hf.2.2.2.2.1,hf.2.2.2.2.2,zPm hrow⟩,h.len,fun j m hm=>?_⟩;obtain⟨u,hu,ht⟩:=h.kids j m (List.getElem?_eq_some_iff.1 hm).1 hm;exact⟨u,hu,ht.keep (fun b hb=>⟨by omega,by omega,fun e=>by injection e with e;exact hb.2.2.2 e⟩) (fun p hp=>⟨World.cell?_of_block (h7 _ Kb),World.frozen?_of_block (h7 _ Kb)⟩)⟩
theorem zV1 (g:Nat):∀(d:Nat)(w:World)(v:Value)(n:NT),w.cell? ⟨g,0,none⟩=some (.func (.func 124) #[] #[.pointer (some ⟨g,0,none⟩)])->zV d w w.heap.size v n->
      Calls Tryz.prog 124 #[v,.pointer (some ⟨g,0,none⟩)] w (zPu (d-1) n w):=by
 intro d;induction d with
 |zero=>intro w v n _ h;exact h.elim
 | succ d ih=>
  have ih2:∀(w:World)(v:Value)(n:NT),w.cell? ⟨g,0,none⟩=some (.func (.func 124) #[] #[.pointer (some ⟨g,0,none⟩)])->zV d w w.heap.size v n->Calls Tryz.prog 124 #[v,.pointer (some ⟨g,0,none⟩)] w (zVf d n w):=by
   intro w v n h1 h2;cases d with
   |zero=>exact h2.elim
   |succ d0=>exact(ih w v n h1 h2).mono fun e w' hh=>hh.copied
  clear ih;intro w v n hg hn;obtain⟨d1,lf,ps,tx,ks,PA,pc,TA,tc,KA,kc,hd1,rfl,rfl,hp,ht,hf,hks⟩:=hn.open_;obtain rfl:d=d1:=Kb;obtain⟨wb,hwb⟩:∃wb,wb=(w.alloc (.cells #[.bool lf,.slice PA ps.length pc,.slice TA tx.length tc,.slice KA ks.length kc] 26)).alloc (.cells #[.bool false,.slice none 0 0,.slice none 0 0,.slice none 0 0] 26):=⟨_,rfl⟩;have hb1:Below w.heap.size w wb:=hwb▸kM Kl Km;have X:=(Box.new w (.bool lf) (.slice PA ps.length pc) (.slice TA tx.length tc) (.slice KA ks.length kc) 26).alloc (.cells #[.bool false,.slice none 0 0,.slice none 0 0,.slice none 0 0] 26);rw[<-hwb]at X;have HP:=fun(w':World)(hb0:Below wb.heap.size wb w')=>hd (zTx PA ps pc w' hf.2.1 ((hp.below (hb1.trans (hb0.mono hb1.size))).more (hb1.trans (hb0.mono hb1.size)).size));have HT:=fun(w':World)(hb0:Below wb.heap.size wb w')=>hd (zTy TA tx tc w' hf.2.2.1 ((ht.below (hb1.trans (hb0.mono hb1.size))).more (hb1.trans (hb0.mono hb1.size)).size));have bJ:=hd (show wb.heap[w.heap.size+1]? =some (.cells #[.bool false,.slice none 0 0,.slice none 0 0,.slice none 0 0] 26) by rw[hwb,<-sz1 (w:=w) (A:=(.cells #[.bool lf,.slice PA ps.length pc,.slice TA tx.length tc,.slice KA ks.length kc] 26))];exact heap_alloc_new _ _);obtain⟨cs,hcs,hmk⟩:=zGt zWg ks.length (by have:=hf.2.2.2.1;omega) (by have:=hf.2.2.2.1;omega);have iJ:=hd hcs;have bK:=hd hks;have HG:=hd hg;have HF:=hd hf;have HB:=hd hb1;have HX:=hd X;have cM:=hf.2.2.2.1;obtain⟨x0,x1,x2,x3⟩:=X;subst hwb;clear hn hp ht hf hks hd1 hb1 hg hcs;go_enter Tryz.func124,Tryz.ntmps124
  go_wp2_with fail
  go_upto_region 1 with fail
  go_cut [4] (fun s4 wx=>kFt w lf ps tx (.slice KA ks.length kc) s4 wx)
  case first=>
   go_region_held3(fun w'=>Below ((w.alloc (.cells #[.bool lf,.slice PA ps.length pc,.slice TA tx.length tc,.slice KA ks.length kc] 26)).alloc (.cells #[.bool false,.slice none 0 0,.slice none 0 0,.slice none 0 0] 26)).heap.size ((w.alloc (.cells #[.bool lf,.slice PA ps.length pc,.slice TA tx.length tc,.slice KA ks.length kc] 26)).alloc (.cells #[.bool false,.slice none 0 0,.slice none 0 0,.slice none 0 0] 26)) w'/\w'.cell? ⟨w.heap.size,0,none⟩=some (.bool lf)/\w'.cell? ⟨w.heap.size,1,none⟩=some (.slice PA ps.length pc)/\w'.cell? ⟨w.heap.size,2,none⟩=some (.slice TA tx.length tc)/\w'.cell? ⟨w.heap.size,3,none⟩=some (.slice KA ks.length kc))
    (first
     |assumption
     |exact⟨Kl.drew,x0,x1,x2,x3⟩
     |exact zXl ‹_› (Kl.alloc Km _)
     |exact kBg ‹_› Kf (by first|exact wK.1.size|simp))
    (first
     |(go_at_call 125;refine Calls.mono (HP _ ?hh).o ?_;(case hh=>(go_split_ands;assumption));intro e w2 h2;obtain⟨gp,cp,rfl,vp,b2,dt,zb⟩:=h2.vp;have wK:=zXl ‹_› b2;have fT:=hd vp;have mq:=hd zb;clear zb;(first|have mo:=hd (kBf (w:=w) (Z:=(.cells #[.bool false,.slice none 0 0,.slice none 0 0,.slice none 0 0] 26)) b2)|skip);clear h2 vp)
     |(go_at_call 126;refine Calls.mono (HT _ ?hh).o ?_;(case hh=>(go_split_ands;assumption));intro e w3 h3;obtain⟨gt,ct,rfl,vt,b3,hct,ze⟩:=h3.vp;have nC:=zXl ‹_› b3;have fU:=hd vt;have wL:=hd ze;clear ze;(first|(have dO:=hd (kI mo.o b3);have kj:=zJ dO.o;obtain⟨q0,q1,q2,q3,q4,q5,q6,q7⟩:=kj)|(have dO:=hd (kFw (W0:=w2) (o:=(.cells #[.bool false,.slice none 0 0,.slice none 0 0,.slice none 0 0] 26)) b3 (g:=w2.heap.size) rfl);have kj:=zJ dO.o;obtain⟨q0,q1,q2,q3,q4,q5,q6,q7⟩:=kj)|skip);clear h3 vt))
   ·go_wp2_with fail
    go_meet
    exact zNb (w3:=w3) (zSb dt hct HB.o bJ.o nC fT.o fU.o b3 (by rw[sz2];exact Nat.le_refl _) (by have h:=b2.size;rw[sz2]at h;omega) (by have h:=b2.size;rw[sz2]at h;have:=b3.size;omega)) rfl (heap_alloc_new _ _) (zT0 mq.o wL.o b3 (by rw[sz2];exact Nat.le_refl _) (by have h:=b2.size;rw[sz2]at h;omega)) (zGj.of_below (Kl.alloc Km _))
   ·go_wp2_with fail
    go_meet
    exact zNb (w3:=w3) (zJ4 dt hct HB.o bJ.o nC fT.o fU.o (zEu b3) dO.o (by have h:=b2.size;rw[sz2]at h;omega) (by rw[sz2];exact Nat.le_refl _) (by rw[sz1];have h:=b2.size;rw[sz2]at h;omega) (fun b _ h=>by omega) (fun b h=>by rw[sz1]at h;omega)) rfl (kD dO.o) (zT0 mq.o wL.o (zEu b3) (by rw[sz2];exact Nat.le_refl _) (by rw[sz1];have h:=b2.size;rw[sz2]at h;omega)) (zOj dO.o)
   ·go_wp2_with fail
    go_meet
    exact zNb (w3:=w3) (zJ4 dt hct HB.o bJ.o nC fT.o fU.o b3 dO.o Kb (by rw[sz3];omega) (by have h:=b2.size;rw[sz3]at h;omega) (fun b h _=>by rw[sz3]at h;omega) (fun b h=>by have h2:=b2.size;rw[sz3]at h2;omega)) rfl (kD dO.o) (zT0 mq.o wL.o b3 (by rw[sz3];omega) (by have h:=b2.size;rw[sz3]at h;omega)) (zOj dO.o)
  case rest=>
   obtain⟨gO,gp,cp,gt,ct,rfl,aJ,hr4,sy,k3,hO,fT,fU,dt,hct,hpt⟩:=hcut;have di:=hd hpt;clear hpt;obtain⟨o0,o1,o2,o3,f0,f1,f2,f3⟩:=zJ hO;have pd:=lt_of_block hO;have HO:=hd hO;have gj:=hd aJ;have fT:=hd fT;have fU:=hd fU;have hk3:((wc.setCell ⟨gO,3,none⟩ (.slice (some ⟨wc.heap.size,0,none⟩) 0 ks.length)).alloc (.cells cs 26)).cell? ⟨w.heap.size,3,none⟩=some (.slice KA ks.length kc):=by
    rw[World.cell?_alloc_lt _ _ _ (by have:=kQ k3;simpa using this),World.cell?_setCell_other _ _ _ _ (by simp;try omega)];exact k3
   have ke:=hd (show zGk w d lf ps tx ks gO gp cp gt ct 0 wc.heap.size ks.length [] _ from⟨zOl (d:=d) (ks:=ks) sy hO aJ hr4 fT.o fU.o iJ.o cM,di.o.keep ((zGj.of_but hO (fun b hb _=>Below.heap_setCell wc (a:=⟨gO,3,none⟩) (.slice (some ⟨wc.heap.size,0,none⟩) 0 ks.length) b (by simpa using hb))).trans (zGj.of_below (Kl.alloc Km _)) Kc)⟩);clear di;clear hO aJ hr4 HP HT x0 x1 x2 x3 HX HB fT fU bJ;go_wp2_with fail
   clear hk3 k3 o0 o1 o2 o3 f0 f1 f2 f3 hmk;go_loopw [24] (fun i wr=>∃(k gk cap:Nat)(us:List Value),k<=ks.length/\i=.int .i64 k/\Kr (zGk w d lf ps tx ks gO gp cp gt ct k gk cap us wr)) (fun i _=>ks.length-(intOf i).toNat)
   case atStart=>exact⟨0,_,_,_,Nat.zero_le _,rfl,ke⟩
   case round=>
    obtain⟨k,gk,cap,us,hk,rfl,HL⟩:=hrel;clear ke;have hbr:=HL.o.loop.below;by_cases hlt:k<ks.length
    ·obtain⟨m,b,o,lf1,cD,cI,cE,cF,cJ,cG,bY,cK,bZ,hm,rfl,hbg,cL,c0,c1,c2,c3⟩:=(bK.o.below hbr).at_ hlt;have hsz:=hbr.size;have fV:=HL.o.loop.o;have eG:=lt_of_block fV;have HM:=hd hm;obtain⟨p0,p1,p2,p3,g0,g1,g2,g3⟩:=zJ fV;have mr:wr.cell? ⟨g,0,none⟩=some (.func (.func 124) #[] #[.pointer (some ⟨g,0,none⟩)]):=(hbr.cell (kQ HG.o)).trans HG.o;have hgl:=kQ mr;obtain⟨wk,hwk⟩:∃wk,wk=(wr.alloc (.cells #[.bool lf1,.slice cD cI cE,.slice cF cJ cG,.slice bY cK bZ] 26)).drew:=⟨_,rfl⟩;have hbk:Below wr.heap.size wr wk:=hwk▸(Kl.alloc Km _).drew;have HC:=hd (ih2 wk _ m ((hbk.cell (kQ mr)).trans mr) (((cL.more hsz).below hbk).more hbk.size));have fh:=hd hbk;have mY:wk.heap[gO]? =_:=(hbk.block _ eG).trans fV;have bg:=hd mY;have hks:=hd (show wk.heap.size=wr.heap.size+1 by rw[hwk];exact sz1);have lA:=kQ HG.o;have wM:=HL.o.loop.row.lt gk rfl;have gI:=HL.o.loop.apart;obtain⟨i0,hi,hz0,hz1,hz2⟩:=info_parts zJj;subst hwk;clear cL hbk hm fV hbr mY;go_upto_block 1 with fail
     go_cut [24] (fun s wx=>s=.int .i64 k/\∃(g6 aU:Nat)(f4:List Value),Kr (zGk w d lf ps tx ks gO gp cp gt ct (k+1) g6 aU f4 wx))
     case first=>
      go_wp2_with fail
      go_region_law(first
        |((go_simp;go_at_call 124;refine HC.o.mono ?_;intro e w4 h4;obtain⟨v4,rfl,bV,hb4⟩:=h4;obtain⟨lf4,aO,aZ,aK,aP,ba,aL,aX,bb,aY,rfl⟩:=(bV.at_ (B:=w4.heap.size) (fun b hb=>hb.2)).val;obtain⟨hs4,cS⟩:=zIk hb4;have pj:=hd ((cS gO eG).trans HL.o.loop.o);obtain⟨r0,r1,r2,r3,r4,r5,r6,r7⟩:=zJ pj.o;have wN:gO<w4.heap.size:=Kb;have hrow4:=hd (zG5 HL.o.loop.row cS);have pn:=hd cS;clear cS;have aJ:=hd hb4;have fu:=hd bV;clear bV hb4))
        |((refine step_append_lies _ Ke (.tmp 29) (.tmp 33) _ Ke (w.heap.size+2) 26 i0 _ 4 80 Tryz.underlying24 hi hz0 hz1 hz2 rfl Kb (.slice (some ⟨gk,0,none⟩) k cap) k (us.flatMap fun u=>u.cells.toList) (by first|rfl|simp[Act.eval]) (hrow4.o.alloc _) ⟨w4.heap.size,0,none⟩ 1 1 [.bool lf4,.slice aO aZ aK,.slice aP ba aL,.slice aX bb aY] (by first|rfl|simp[Act.eval]) Ke (World.news_of_block (cs:=#[.bool lf4,.slice aO aZ aK,.slice aP ba aL,.slice aX bb aY]) (t:=26) (fr:=(0,0)) (heap_alloc_new w4 _)) (by simp[Value.oneCell']) Kb Kg Kb Kf (w4.heap.size+1) Kc ?_;intro g6 aU w6 aI ak bB kp;have eH:=hd (zNe ak pj.o gI);obtain⟨s0,s1,s2,s3,s4,s5,s6,s7⟩:=zJ eH.o;have kq:=lt_of_block eH.o)))
      all_goals
       have HST:=hd (zXc HL.o aJ.o ak (zSc HL.o.loop HM.o aJ.o fu.o ak aI bB))
       clear ak aI bB s0 s1 s2 s3 s4 s5 s6 s7 r0 r1 r2 r3 r4 r5 r6 r7 hrow4 pj eH pn aJ fu p0 p1 p2 p3 g0 g1 g2 g3 c0 c1 c2 c3
       go_wp2_with fail
       go_meet
       exact⟨rfl,g6,aU,_,HST⟩
     case rest=>
      obtain⟨rfl,g6,aU,f4,HST⟩:=hcut;clear p0 p1 p2 p3 g0 g1 g2 g3 c0 c1 c2 c3;go_wp2
      go_roundw
      case rel=>exact⟨k+1,g6,aU,f4,by omega,by go_num,HST⟩
      case measure=>simp[intOf];omega
    ·obtain rfl:k=ks.length:=Kb;have gJ:=HL.o.loop.o;have sA:=lt_of_block gJ;obtain⟨p0,p1,p2,p3,_,_,_,_⟩:=zJ gJ;clear gJ;obtain⟨q0,q1,q2,q3,q4,q5,q6,q7⟩:=zJ HL.o.loop.res;have sB:=hd HL.o.loop.res;have hbr:=HL.o.loop.below;go_wp2
     have h7:=kD (a:=.bool lf) (b:=.slice (some ⟨gp,0,none⟩) ps.length cp) (c:=.slice (some ⟨gt,0,none⟩) tx.length ct) (d:=.slice (some ⟨gk,0,none⟩) ks.length cap) sB.o;obtain⟨t0,t1,t2,t3,_,_,_,_⟩:=zJ h7;refine bodyPost_ret (v:=.agg #[.bool lf,.slice (some ⟨gp,0,none⟩) ps.length cp,.slice (some ⟨gt,0,none⟩) tx.length ct,.slice (some ⟨gk,0,none⟩) ks.length cap]) (by simp[results,Tryz.results124,go_sem,t0,t1,t2,t3]) rfl ⟨_,rfl,kA3 HL.o ⟨HF.o.1,HF.o.2.1,HF.o.2.2.1,HF.o.2.2.2.1,dt,hct⟩ Kc (fun b hb=>?_),?_⟩
     ·iterate 4 rw[Below.heap_setCell _ _ _ _ (by simpa using hb)]
     ·exact(((hbr.setCell (by show _<=w.heap.size+1;omega) _).setCell (by show _<=w.heap.size+1;omega) _).setCell (by show _<=w.heap.size+1;omega) _).setCell (by show _<=w.heap.size+1;omega) _
theorem kQe {P:Prop}(h:P:=by
 exact(((kf.setCell (by show _<=w.heap.size+1;omega) _).setCell (by show _<=w.heap.size+1;omega) _).setCell (by show _<=w.heap.size+1;omega) _).setCell (by show _<=w.heap.size+1;omega) _):P:=h
theorem zYx (d:Nat)(w:World)(v:Value)(n:NT)(hn:zV d w w.heap.size v n):Calls Tryz.prog 75 #[v] w (zPu (d-1) n w):=by
 have hn0:=hn;obtain⟨lf,PA,np,pc,TA,nt,tc,KA,nk,kc,rfl⟩:=hn.val;obtain⟨f0,iY⟩:∃f:Value,f=.func (.func 124) #[] #[.pointer (some ⟨w.heap.size+1+1,0,none⟩)]:=⟨_,rfl⟩;obtain⟨wa,dN⟩:∃wa,wa=((w.alloc (.cells #[.bool lf,.slice PA np pc,.slice TA nt tc,.slice KA nk kc] 26)).alloc (.cells #[.bool false,.slice none 0 0,.slice none 0 0,.slice none 0 0] 26)).alloc (.cells #[f0] 38):=⟨_,rfl⟩;have bX:Below w.heap.size w wa:=dN▸(kM Kl Km).alloc Kf _;have mn:wa.cell? ⟨w.heap.size+1+1,0,none⟩=some f0:=by rw[dN,World.cell?_alloc_at _ _ _ _ Kc];rfl
 have hsa:wa.heap.size=w.heap.size+3:=by rw[dN];simp
 have iU:wa.heap[w.heap.size+1]? =some (.cells #[.bool false,.slice none 0 0,.slice none 0 0,.slice none 0 0] 26):=by
  rw[dN,Below.heap_alloc _ _ _ Kc];rw[<-sz1 (w:=w) (A:=.cells #[.bool lf,.slice PA np pc,.slice TA nt tc,.slice KA nk kc] 26)];exact heap_alloc_new _ _
 have HC:=hd (zV1 (w.heap.size+1+1) d wa _ _ (iY▸mn) (hn0.later bX));have HB:=hd bX;have HR:=hd iU;have HS:=hd hsa;subst dN iY;clear hn hn0 bX mn iU hsa;go_enter Tryz.func75,Tryz.ntmps75
 go_wp2_with(first|(refine HC.o.mono ?_;intro e w' h4;obtain⟨v4,rfl,bV,hb4⟩:=h4;obtain⟨lf4,aO,aZ,aK,aP,ba,aL,aX,bb,aY,rfl⟩:=bV.val;have d7:=hd ((hb4.block (w.heap.size+1) (by rw[HS.o];omega)).trans HR.o);obtain⟨r0,r1,r2,r3,r4,r5,r6,r7⟩:=zJ d7.o;have fu:=hd bV;have aJ:=hd hb4;clear bV hb4))
 have h7:=kD (a:=.bool lf4) (b:=.slice aO aZ aK) (c:=.slice aP ba aL) (d:=.slice aX bb aY) d7.o;obtain⟨t0,t1,t2,t3,_,_,_,_⟩:=zJ h7;have hsz:=aJ.o.size;rw[HS.o]at hsz;have sD:=fu.o;rw[HS.o]at sD;have kf:Below w.heap.size w w':=HB.o.trans (aJ.o.mono (by rw[HS.o];omega));refine bodyPost_ret (v:=.agg #[.bool lf4,.slice aO aZ aK,.slice aP ba aL,.slice aX bb aY]) (by simp[results,Tryz.results75,go_sem,t0,t1,t2,t3]) rfl ⟨_,rfl,(sD.keep Kc (fun b h1 _=>?_)).base Kb,?_⟩
 ·have hne:b≠w.heap.size+1:=Kb;iterate 4 rw[Below.heap_setCell _ _ _ _ (by simpa using hne)]
 ·exact kQe
def zV2 (r:NT×Int)(w:World)(e:Ending)(w':World):Prop:=
 ∃v d,e=.returned (.tuple #[v,.int .i64 r.2])/\zTz w.heap.size d w' v r.1/\Below w.heap.size w w'
theorem zQz {r:NT×Int}{e:Int}(h:r=(n,e))(ht:zTz w.heap.size d w' v n)(hb:Below w.heap.size w w'):zV2 r w (.returned (.tuple #[v,.int .i64 e])) w':=by
 subst h;exact⟨v,d,rfl,ht,hb⟩
theorem zYy (base d:Nat)(w:World):zTz base d w (.agg #[.bool false,.slice none 0 0,.slice none 0 0,.slice none 0 0]) zeroT:=
 ⟨none,0,none,0,none,0,[],rfl,World.ownsRow_nil _ _ _ _,World.ownsRow_nil _ _ _ _,World.ownsRow_nil _ _ _ _,zPl,rfl,fun j m h=>by simp[zeroT,NT.ks]at h⟩
theorem zYz (d:Nat)(w:World)(v:Value)(n:NT)(A:Option Addr)(p:List Int)(lp c:Nat)(aV:p.length=lp)(hl:lp<=10000000)(hn:zV d w w.heap.size v n)(hp:IL w w.heap.size A p):
  Calls Tryz.prog 30 #[v,.slice A lp c] w (zV2 (zGm n p) w):=by
 obtain⟨lf,PA,np,pc,TA,nt,tc,KA,nk,kc,rfl⟩:=hn.val;have ke:=hd (zRv (p:=p) hn);have HP:=hd hp;have fe:=hd aV;clear hn hp aV;go_enter Tryz.func30,Tryz.ntmps30
 go_wp2
 go_loopw [10] (fun i wr=>∃(k:Nat)(lf:Bool)(PA:Option Addr)(np pc:Nat)(TA:Option Addr)(nt tc:Nat)(KA:Option Addr)(nk kc:Nat)(m:NT),k<=lp/\i=.int .i64 k/\Kr (zM2 w d n p k lf PA np pc TA nt tc KA nk kc m wr)) (fun i _=>lp-(intOf i).toNat)
 case atStart=>exact⟨0,_,_,_,_,_,_,_,_,_,_,n,Nat.zero_le _,rfl,ke⟩
 case round=>
  clear ke;obtain⟨k,lf,PA,np,pc,TA,nt,tc,KA,nk,kc,m,hk,rfl,HL⟩:=hrel;have hbr:=HL.o.below;have hsz:=hbr.size;obtain⟨x0,x1,x2,x3,y0,y1,y2,y3⟩:=zJ HL.o.var;obtain⟨z0,z1,z2,z3,f0,f1,f2,f3⟩:=zJ HL.o.res;have bi:=lt_of_block HL.o.res;by_cases hlt:k<lp
  ·obtain⟨b,o,rfl,hbl,hc⟩:=(HP.o.below hbr).at_ (k:=k) (by rw[fe.o];exact hlt);obtain⟨i,hi⟩:∃i,iAt p k=i:=⟨_,rfl⟩;rw[hi]at hc;have bQ:=HL.o.node;obtain⟨d',lf',ps,tx,ks,PA',pc',TA',tc',KA',kc',hd',hm',ev,hps,htx,hfit,hks⟩:=bQ.open_;simp only[Value.agg.injEq,Array.mk.injEq,List.cons.injEq,Value.bool.injEq,Value.slice.injEq,and_true]at ev;obtain⟨rfl,⟨rfl,rfl,rfl⟩,⟨rfl,rfl,rfl⟩,rfl,rfl,rfl⟩:=ev;have cM:=hfit.2.2.2.1;cases hb:zOf m i
   ·have HE:=hd (zB2 (zRy (by rw[fe.o];exact hlt) HL.o.at_ (by rw[hi];exact zJx hb)));have HC:=hd (zD6 m i false hb d wr _ ((bQ.more hsz)));have aH:=hd hbr;have bJ:=hd HL.o.res;have iZ:m.ks.length=ks.length:=by rw[hm'];rfl
    have hno:i<0∨0<=i/\(ks.length:Int)<=i:=by
     rcases(show i<0∨0<=i by omega)with h|h
     ·exact .inl h
     ·refine .inr ⟨h,?_⟩;rcases(show(ks.length:Int)<=i∨i<ks.length by omega)with h2|h2
      ·exact h2
      ·rw[zEx.2 ⟨h,by rw[iZ];exact h2⟩]at hb;cases hb
    clear bQ hps htx hfit hks hb hi hm' hd' hbr iZ;rcases hno with g1|⟨g1,g2⟩;all_goals
     go_wp2_with(first|(go_at_call 74;refine HC.o.mono ?_;rintro e w2 ⟨rfl,b2⟩;have dU:=hd (kI bJ.o b2);have hl2:=b2.size;obtain⟨r0,r1,r2,r3,r4,r5,r6,r7⟩:=zJ dU.o))
     have h7:=kD (a:=.bool false) (b:=.slice none 0 0) (c:=.slice none 0 0) (d:=.slice none 0 0) (by first|exact dU.o|exact bJ.o)
     obtain⟨t0,t1,t2,t3,_,_,_,_⟩:=zJ h7
     refine bodyPost_ret (v:=.tuple #[.agg #[.bool false,.slice none 0 0,.slice none 0 0,.slice none 0 0],.int .i64 5]) (by simp[results,Tryz.results30,go_sem,t0,t1,t2,t3]) rfl (zQz HE.o (zYy _ 0 _) ?_)
     exact((((show Below w.heap.size w _ from(by first|exact aH.o.trans (b2.mono aH.o.size)|exact aH.o)).setCell (by show _<=w.heap.size+1;omega) _).setCell (by show _<=w.heap.size+1;omega) _).setCell (by show _<=w.heap.size+1;omega) _).setCell (by show _<=w.heap.size+1;omega) _
   ·have HK:=hd (zEx.1 hb);obtain⟨j,hj⟩:∃j:Nat,i=(j:Int):=⟨i.toNat,by have:=HK.o;omega⟩;subst hj;have mh:j<ks.length:=by have:=HK.o;rw[hm']at this;simp only[NT.ks]at this;omega
    have HC:=hd (zD6 m (j:Int) true hb d wr _ ((bQ.more hsz)));have bK:=hd hks;have HI:=hd hi;have HM:=hd hm';have HD:=hd hd';have aH:=hd hbr;clear bQ hps htx hfit hks hb hi hm' hd' z0 z1 z2 z3 f0 f1 f2 f3 hbr;have oP:=hd HL.o.var;obtain⟨m2,b',o',lf2,iA,iB,iC,iD,iE,iF,ie,iG,ig,hm2,rfl,oQ,dJ,c0,c1,c2,c3⟩:=bK.o.at_ mh;have hg:=hd (show kB n (p.take (k+1))=some m2 by rw[zFv (by rw[fe.o];exact hlt) HL.o.at_,HI.o];unfold zBh;rw[if_pos Kb,HM.o];exact hm2);have jz:=hd (dJ.deep (d':=d) (by have:=HD.o;omega));have uj:=hd hm2;clear dJ hm2;go_wp2_with(first|(go_at_call 74;refine HC.o.mono ?_;rintro e w2 ⟨rfl,b2⟩;have hl2:=b2.size;obtain⟨u0,u1,u2,u3,u4,u5,u6,u7⟩:=zJ (kI oP.o b2);have e0:=(b2.cell (kQ c0)).trans c0;have e1:=(b2.cell (kQ c1)).trans c1;have e2:=(b2.cell (kQ c2)).trans c2;have e3:=(b2.cell (kQ c3)).trans c3;clear c0 c1 c2 c3 x0 x1 x2 x3 y0 y1 y2 y3))
    go_roundw
    case rel=>exact⟨k+1,_,_,_,_,_,_,_,_,_,_,m2,by omega,by go_num,hd (zU8 HL.o (by first|exact b2|exact Below.refl _ _) hg.o (by first|exact jz.o.below (b2.mono hsz)|exact jz.o))⟩
    case measure=>simp[intOf];omega
  ·have HE:=hd (kP (n:=n) (m:=m) (p:=p) (by have:=HL.o.at_;rwa[List.take_of_length_le (by rw[fe.o];omega)]at this));have bJ:=hd HL.o.res;have aH:=hd hbr;have HN:=hd (HL.o.node.more hsz);clear z0 z1 z2 z3 f0 f1 f2 f3 hbr;go_wp2_with(first|(go_at_call 75;refine Calls.mono (zYx _ _ _ _ HN.o) ?_;intro e w4 h4;obtain⟨v4,rfl,bV,hb4⟩:=h4;obtain⟨lf4,aO,aZ,aK,aP,ba,aL,aX,bb,aY,rfl⟩:=bV.val;have d7:=hd (kI bJ.o hb4);obtain⟨r0,r1,r2,r3,r4,r5,r6,r7⟩:=zJ d7.o;have fu:=hd bV;have aJ:=hd hb4;have hl4:=hb4.size;clear bV hb4))
   have h7:=kD (a:=.bool lf4) (b:=.slice aO aZ aK) (c:=.slice aP ba aL) (d:=.slice aX bb aY) d7.o;obtain⟨t0,t1,t2,t3,_,_,_,_⟩:=zJ h7;have kf:Below w.heap.size w w4:=aH.o.trans (aJ.o.mono aH.o.size);refine bodyPost_ret (v:=.tuple #[.agg #[.bool lf4,.slice aO aZ aK,.slice aP ba aL,.slice aX bb aY],.int .i64 0]) (by simp[results,Tryz.results30,go_sem,t0,t1,t2,t3]) rfl (zQz HE.o ((fu.o.keep Kc (fun b h1 _=>?_)).base Kb) ?_)
   ·have hne:b≠w.heap.size+1:=Kb;iterate 4 rw[Below.heap_setCell _ _ _ _ (by simpa using hne)]
   ·exact kQe
theorem kJ0 {x:NT}{er:Int}{A:Option Addr}{p:List Int}{lp c:Nat}(hr:zGm n p=(x,er))(aV:p.length=lp)(hl:lp<=1000)(hn:At w v n)(hp:IL w w.heap.size A p):Calls Tryz.prog 30 #[v,.slice A lp c] w (zV2 (x,er) w):=by
 obtain⟨d,hn⟩:=hn;subst aV;rw[<-hr];exact zYz d w v n A p p.length c rfl Kb hn hp
