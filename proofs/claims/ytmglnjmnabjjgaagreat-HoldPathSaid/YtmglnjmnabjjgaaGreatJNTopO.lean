import Derived.Test.YtmglnjmnabjjgaaGreatJTTree
set_option maxRecDepth 100000
set_option maxHeartbeats 8000000
namespace Go.Proofs.YtmglnjmnabjjgaaGreat
open Go.RowKit
open Go.WideShapes (add_plain)
variable {w w' w3 wr:World}{B b b' base' cap cp d g gO gk k:Nat}{t:TypeId}{u v:Value}{n:NT}{us xs:List Value}{cs:Array Value}{fr:Nat×Nat}{A gp gt:Option Addr}{e:Ending}{L:List (List Int)}{l:List Int}
theorem zBy {base:Nat}{size:Nat}{n:Nat}(h:w.ownsRow base t size v n xs)(hb:base'<=base):w.ownsRow base' t size v n xs:=by
 refine⟨h.1,?_⟩;rcases h.2 with e|⟨g,cap,cur,e,hg,rest⟩
 ·exact .inl e
 ·exact .inr ⟨g,cap,cur,e,by omega,rest⟩
def zGj (w w':World):Prop:=∀b,b<w.heap.size->(∀cs fr,w.heap[b]? ≠some (.cells cs 26 fr))->w'.heap[b]? =w.heap[b]?
theorem zCs {base:Nat}{size:Nat}{n:Nat}(h:w.ownsRow base t size v n xs)(ht:t≠26)(hk:zGj w w'):w'.ownsRow base t size v n xs:=by
 refine⟨h.1,?_⟩;rcases h.2 with e|⟨g,cap,cur,e,hg,hh,rest⟩
 ·exact .inl e
 ·refine .inr ⟨g,cap,cur,e,hg,(hk g (lt_of_block hh) fun cs fr e2=>?_).trans hh,rest⟩;rw[hh]at e2;injection e2 with e2;injection e2 with _ e3;exact ht e3
theorem zGj.of_below (h:Below w.heap.size w w'):zGj w w':=fun b hb _=>h.block b hb
theorem zGj.of_but (hg:w.heap[g]? =some (.cells cs 26 fr))(h:∀b,b≠g->b<w.heap.size->w'.heap[b]? =w.heap[b]?):zGj w w':=fun b hb hn=>h b (fun e=>hn cs fr (e▸hg)) hb
structure PT (w:World)(base:Nat)(gp:Option Addr)(cp:Nat)(gt:Option Addr)(ct:Nat)(ps:List Pr)(tx:List Int):Prop where
 p:w.ownsRow base 103 2 (.slice gp ps.length cp) ps.length (pv ps)
 t:w.ownsRow base 21 1 (.slice gt tx.length ct) tx.length (rv tx)
theorem PT.keep {base:Nat}{ct:Nat}{ps:List Pr}{tx:List Int}(h:PT w base gp cp gt ct ps tx)(hk:zGj w w'):PT w' base gp cp gt ct ps tx:=
 ⟨zCs h.p Kd hk,zCs h.t Kd hk⟩
def zVd (t:TypeId)(size n:Nat)(xs:List Value)(w:World)(e:Ending)(w':World):Prop:=
 ∃g c,e=.returned (.slice (some ⟨g,0,none⟩) n c)/\w'.ownsRow w.heap.size t size (.slice (some ⟨g,0,none⟩) n c) n xs/\Below w.heap.size w w'
theorem zVd.vp {size n:Nat}(h:zVd t size n xs w e w'):∃g c,e=.returned (.slice (some ⟨g,0,none⟩) n c)/\VP (fun b=>w.heap.size<=b/\b<w'.heap.size) w' (some ⟨g,0,none⟩) xs/\Below w.heap.size w w'/\n<=c/\w'.ownsRow w.heap.size t size (.slice (some ⟨g,0,none⟩) n c) n xs:=by
 obtain⟨g,c,e,h1,h2⟩:=h;exact⟨g,c,e,zIr h1,h2,zPm h1,h1⟩
theorem zTx (A:Option Addr)(ps:List Pr)(c:Nat)(w:World)(hl:ps.length<=4398046511104)(hp:PL w w.heap.size A ps):Calls Tryz.prog 80 #[.slice A ps.length c] w (zVd 103 2 ps.length (pv ps) w):=by
 obtain⟨cs,hcs,hmk⟩:=zGt zZh ps.length Kb Kb;have hv:VL w w.heap.size A (pv ps):=hp.vl;have HV:=hd hv;have qw:=hd hcs;clear hp hv hcs;go_enter Tryz.func80,Tryz.ntmps80
 go_wp2_with(at_builtin;refine zBr zZh _ rfl (.tmp 5) (.tmp 6) rfl w.heap.size (.slice (some ⟨w.heap.size,0,none⟩) 0 ps.length) 0 [] rfl (World.ownsRow_made w cs ps.length Km Kg qw.o) A ps.length c w.heap.size (pv ps) rfl (by rw[zN8]<;>omega) (HV.o.below (Kl.alloc Km _)) (zZg ps) Kg Kb Kc rfl ?_;intro g cap w1 aQ hg1)
 go_ret
 rw[Nat.zero_add,List.nil_append]at aQ;exact⟨g,cap,rfl,aQ,(Kl.alloc Km _).grown hg1 Kc (fun j hj=>by simp[Value.ownBlock]at hj;omega)⟩
theorem zTy (A:Option Addr)(ps:List Int)(c:Nat)(w:World)(hl:ps.length<=35184372088832)(hp:VL w w.heap.size A (rv ps)):Calls Tryz.prog 81 #[.slice A ps.length c] w (zVd 21 1 ps.length (rv ps) w):=by
 obtain⟨cs,hcs,hmk⟩:=zGt zTa ps.length Kb Kb;have hv:VL w w.heap.size A (rv ps):=hp;have HV:=hd hv;have qw:=hd hcs;clear hp hv hcs;go_enter Tryz.func81,Tryz.ntmps81
 go_wp2_with(at_builtin;refine zBr zTa _ rfl (.tmp 5) (.tmp 6) rfl w.heap.size (.slice (some ⟨w.heap.size,0,none⟩) 0 ps.length) 0 [] rfl (World.ownsRow_made w cs ps.length Km Kg qw.o) A ps.length c w.heap.size (rv ps) rfl (by rw[zCg]<;>omega) (HV.o.below (Kl.alloc Km _)) (zNz ps) Kg Kb Kc rfl ?_;intro g cap w1 aQ hg1)
 go_ret
 rw[Nat.zero_add,List.nil_append]at aQ;exact⟨g,cap,rfl,aQ,(Kl.alloc Km _).grown hg1 Kc (fun j hj=>by simp[Value.ownBlock]at hj;omega)⟩
def zTz (base d:Nat)(w:World)(v:Value)(n:NT):Prop:=
 ∃(PA:Option Addr)(pc:Nat)(TA:Option Addr)(tc:Nat)(KA:Option Addr)(kc:Nat)(us:List Value),v=.agg #[.bool n.lf,.slice PA n.ps.length pc,.slice TA n.tx.length tc,.slice KA n.ks.length kc]/\w.ownsRow base 103 2 (.slice PA n.ps.length pc) n.ps.length (pv n.ps)/\w.ownsRow base 21 1 (.slice TA n.tx.length tc) n.tx.length (rv n.tx)/\
  w.ownsRow base 26 4 (.slice KA n.ks.length kc) n.ks.length (zGg us)/\zU0 n.ps n.tx.length n.ks.length pc tc kc/\us.length=n.ks.length/\∀(j:Nat)(m:NT),n.ks[j]? =some m->∃u,us[j]? =some u/\zAx (fun b=>base<=b/\b<w.heap.size/\some b≠(Value.slice KA 0 0).ownBlock) d w u m
theorem zTz.base {base:Nat}(h:zTz base d w v n)(hb:base'<=base):zTz base' d w v n:=by
 obtain⟨PA,pc,TA,tc,KA,kc,us,e,hp,ht,hk,hf,hl,hks⟩:=h;exact⟨PA,pc,TA,tc,KA,kc,us,e,zBy hp hb,zBy ht hb,zBy hk hb,hf,hl,fun j m hm=>by
  obtain⟨u,h1,h2⟩:=hks j m hm;exact⟨u,h1,h2.keep (fun b hb2=>⟨by omega,hb2.2⟩) (fun _ _=>⟨rfl,rfl⟩)⟩⟩
theorem zA8 {base:Nat}{size:Nat}{n:Nat}(h:w.ownsRow base t size v n xs)(hk:∀b,base<=b->b<w.heap.size->w'.heap[b]? =w.heap[b]?):w'.ownsRow base t size v n xs:=by
 refine⟨h.1,?_⟩;rcases h.2 with e|⟨g,cap,cur,e,hg,hh,rest⟩
 ·exact .inl e
 ·exact .inr ⟨g,cap,cur,e,hg,(hk g hg (lt_of_block hh)).trans hh,rest⟩
theorem zTz.keep {base:Nat}(h:zTz base d w v n)(hs:w.heap.size<=w'.heap.size)(hk:∀b,base<=b->b<w.heap.size->w'.heap[b]? =w.heap[b]?):zTz base d w' v n:=by
 obtain⟨PA,pc,TA,tc,KA,kc,us,e,hp,ht,hkk,hf,hl,hks⟩:=h;exact⟨PA,pc,TA,tc,KA,kc,us,e,zA8 hp hk,zA8 ht hk,zA8 hkk hk,hf,hl,fun j m hm=>by
  obtain⟨u,h1,h2⟩:=hks j m hm;exact⟨u,h1,h2.keep (fun b hb2=>⟨hb2.1,by omega,hb2.2.2⟩) (fun p hp=>⟨World.cell?_of_block (hk _ hp.1 hp.2.1),World.frozen?_of_block (hk _ hp.1 hp.2.1)⟩)⟩⟩
theorem zTz.val {base:Nat}(h:zTz base d w v n):∃lf PA np pc TA nt tc KA nk kc,v=.agg #[.bool lf,.slice PA np pc,.slice TA nt tc,.slice KA nk kc]:=by
 obtain⟨PA,pc,TA,tc,KA,kc,us,e,_⟩:=h;exact⟨_,_,_,_,_,_,_,_,_,_,e⟩
theorem zTz.tree {base:Nat}(h:zTz base d w v n):zAx (fun b=>base<=b/\b<w.heap.size) (d+1) w v n:=by
 obtain⟨PA,pc,TA,tc,KA,kc,us,e,hp,ht,hkk,hf,hl,hks⟩:=h;refine⟨PA,pc,TA,tc,KA,kc,e,zIr hp,zIr ht,hf,fun k m hm=>?_⟩;have hfree:=zIr hkk;have h4:∀x ∈ us,x.cells.size=4:=fun x hx=>by
  obtain⟨j,hj,rfl⟩:=List.mem_iff_getElem.1 hx;obtain⟨u,hu,ht⟩:=hks j _ (List.getElem?_eq_getElem (by rw[<-hl];exact hj));rw[List.getElem?_eq_getElem hj]at hu;injection hu with hu;obtain⟨c0,c1,c2,c3,e⟩:=ht.four;rw[hu,e];rfl
 obtain⟨u,hu,htr⟩:=hks k m hm;obtain⟨c0,c1,c2,c3,e4⟩:=htr.four;have hc:=fun i c hi=>hfree (k*4+i) c (zJ5 us k u c0 c1 c2 c3 h4 hu e4 i c hi);obtain⟨g,o,hg,hgb,hc0⟩:=hc 0 c0 rfl;subst hg;have hc':∀i c,[c0,c1,c2,c3][i]? =some c->kKa w g (o+(k*4+i)) c:=fun i c hi=>by
  obtain⟨g',o',e',_,h5⟩:=hc i c hi;injection e' with e';injection e' with e1 e2;subst e1 e2;exact h5
 refine⟨g,o,u,rfl,hgb,htr.keep (fun b hb=>⟨hb.1,hb.2.1⟩) (fun _ _=>⟨rfl,rfl⟩),⟨c0,c1,c2,c3,e4,?_,?_,?_,?_⟩,?_⟩
 ·exact(hc' 0 c0 rfl).1
 ·exact(hc' 1 c1 rfl).1
 ·exact(hc' 2 c2 rfl).1
 ·exact(hc' 3 c3 rfl).1
 ·exact(hc' 0 c0 rfl).2
def zPu (d:Nat)(n:NT)(w:World)(e:Ending)(w':World):Prop:=
 ∃v,e=.returned v/\zTz w.heap.size d w' v n/\Below w.heap.size w w'
theorem zPu.copied (h:zPu d n w e w'):zVf (d+1) n w e w':=by
 obtain⟨v,h1,h2,h3⟩:=h;exact⟨v,h1,h2.tree,h3⟩
def kFt (w:World)(lf:Bool)(ps:List Pr)(tx:List Int)(kids:Value)(s4:Value)(wx:World):Prop:=
 ∃gO gp cp gt ct,s4=.pointer (some ⟨gO,0,none⟩)/\Below w.heap.size w wx/\wx.heap[w.heap.size+1]? =some (.cells #[.bool false,.slice none 0 0,.slice none 0 0,.slice none 0 0] 26)/\w.heap.size+2<=gO/\wx.cell? ⟨w.heap.size,3,none⟩=some kids/\
  wx.heap[gO]? =some (.cells #[.bool lf,.slice (some ⟨gp,0,none⟩) ps.length cp,.slice (some ⟨gt,0,none⟩) tx.length ct,.slice none 0 0] 26 (0,0))/\
  VP (fun b=>w.heap.size+2<=b/\b<wx.heap.size/\b≠gO) wx (some ⟨gp,0,none⟩) (pv ps)/\VP (fun b=>w.heap.size+2<=b/\b<wx.heap.size/\b≠gO) wx (some ⟨gt,0,none⟩) (rv tx)/\ps.length<=cp/\tx.length<=ct/\PT wx (w.heap.size+2) (some ⟨gp,0,none⟩) cp (some ⟨gt,0,none⟩) ct ps tx
theorem zNb {lf:Bool}{ps:List Pr}{tx:List Int}{kids s4:Value}{wx:World}{gp gt ct:Nat}{k0:Value}(h:kEw w lf ps tx kids s4 wx)(e:s4=.pointer (some ⟨gO,0,none⟩))(hO:wx.heap[gO]? =some (.cells #[.bool lf,.slice (some ⟨gp,0,none⟩) ps.length cp,.slice (some ⟨gt,0,none⟩) tx.length ct,k0] 26 fr))(hpt:PT w3 (w.heap.size+2) (some ⟨gp,0,none⟩) cp (some ⟨gt,0,none⟩) ct ps tx)(hk:zGj w3 wx):kFt w lf ps tx kids s4 wx:=by
 obtain⟨gO',gp',cp',gt',ct',e',h2,h3,h4,h5,h6,h7,h8,h9,h10⟩:=h;have eO:gO'=gO:=by rw[e]at e';injection e' with e';injection e' with e';injection e' with e';exact e'.symm
 subst eO;rw[hO]at h6;simp only[Option.some.injEq,Obj.cells.injEq,Array.mk.injEq,List.cons.injEq,Value.slice.injEq,Addr.mk.injEq,and_true,true_and]at h6;obtain⟨⟨⟨e1,e2⟩,⟨e3,e4⟩,e5⟩,e6⟩:=h6;subst e1 e2 e3 e4 e5 e6;exact⟨_,_,_,_,_,e,h2,h3,h4,h5,hO,h7,h8,h9,h10,hpt.keep hk⟩
theorem zT0 {W W' w2:World}{ps:List Pr}{tx:List Int}{ct:Nat}(op:w2.ownsRow W.heap.size 103 2 (.slice gp ps.length cp) ps.length (pv ps))(ot:w3.ownsRow W'.heap.size 21 1 (.slice gt tx.length ct) tx.length (rv tx))(hb:Below w2.heap.size w2 w3)(hW:w.heap.size+2<=W.heap.size)(hW':w.heap.size+2<=W'.heap.size):PT w3 (w.heap.size+2) gp cp gt ct ps tx:=
 ⟨zBy (zA8 op fun b _ hl=>hb.block b hl) hW,zBy ot hW'⟩
theorem zOj {a b c d:Value}(h:w.heap[g]? =some (.cells cs 26 fr)):zGj w ((((w.setCell ⟨g,0,none⟩ a).setCell ⟨g,1,none⟩ b).setCell ⟨g,2,none⟩ c).setCell ⟨g,3,none⟩ d):=
 zGj.of_but h fun k hk _=>by iterate 4 rw[Below.heap_setCell _ _ _ _ (by simpa using hk)]
structure zGk (w:World)(d:Nat)(lf:Bool)(ps:List Pr)(tx:List Int)(ks:List NT)(gO gp cp gt ct k gk cap:Nat)(us:List Value)(wr:World):Prop where
 loop:zFs w d lf ps tx ks gO gp cp gt ct k gk cap us wr
 pt:PT wr (w.heap.size+2) (some ⟨gp,0,none⟩) cp (some ⟨gt,0,none⟩) ct ps tx
theorem zGj.trans {a b c:World}(h:zGj a b)(k:zGj b c)(hs:a.heap.size<=b.heap.size):zGj a c:=fun x hx hn=>by
 have h1:=h x hx hn;exact(k x Kb (fun cs fr e=>hn cs fr (h1.symm.trans e))).trans h1
theorem zXc {w4 w6:World}{lf:Bool}{ps:List Pr}{tx:List Int}{ks:List NT}{gp gt ct g6 bz:Nat}{iK:List Value}{o o1:Obj}{x:Value}(h:zGk w d lf ps tx ks gO gp cp gt ct k gk cap us wr)
  (hb4:Below (wr.alloc o).drew.heap.size (wr.alloc o).drew w4) (hgrow:(w4.alloc o1).grownBy w6 (some gk)) (hst:zFs w d lf ps tx ks gO gp cp gt ct (k+1) g6 bz iK (w6.setCell ⟨gO,3,none⟩ x)):zGk w d lf ps tx ks gO gp cp gt ct (k+1) g6 bz iK (w6.setCell ⟨gO,3,none⟩ x):=by
 refine⟨hst,h.pt.keep fun b hb hn=>?_⟩;obtain⟨hs4,eT⟩:=zIk hb4;have e5:(w4.alloc o1).heap.size=w4.heap.size+1:=sz1;have hne:b≠gO:=fun e=>hn _ _ (e▸h.loop.o);have iH:b≠gk:=fun e=>by
  rcases h.loop.row.2 with⟨e1,_⟩|⟨g',cap',cur,e1,_,hh,_⟩
  ·cases e1
  ·injection e1 with e1;injection e1 with e1;injection e1 with e1;exact hn _ _ (e▸e1▸hh)
 rw[Below.heap_setCell _ _ _ _ (by simpa using hne),hgrow.block b (by rw[e5];omega) (by intro e;injection e with e;exact iH e),Below.heap_alloc _ _ _ Kb,eT b hb]
theorem kA3 {w7:World}{lf:Bool}{ps:List Pr}{tx:List Int}{ks:List NT}{gp gt ct:Nat}(hh:zGk w d lf ps tx ks gO gp cp gt ct ks.length gk cap us wr)(hf:zIo ps/\ps.length<=4398046511104/\tx.length<=35184372088832/\ks.length<=1759218604441/\ps.length<=cp/\tx.length<=ct)(hs:wr.heap.size<=w7.heap.size)
  (h7:∀b,b≠w.heap.size+1->w7.heap[b]? =wr.heap[b]?):
  zTz w.heap.size d w7 (.agg #[.bool lf,.slice (some ⟨gp,0,none⟩) ps.length cp,.slice (some ⟨gt,0,none⟩) tx.length ct,.slice (some ⟨gk,0,none⟩) ks.length cap]) (.mk lf ps tx ks):=by
 have h:=hh.loop;have qx:∀b,w.heap.size+2<=b->b<wr.heap.size->w7.heap[b]? =wr.heap[b]? :=fun b h1 _=>h7 b Kb;have hrow:=zA8 h.row qx;refine⟨_,_,_,_,_,_,us,rfl,zBy (zA8 hh.pt.p qx) Kb,zBy (zA8 hh.pt.t qx) Kb,zBy hrow Kb,⟨hf.1,hf.2.1,hf.2.2.1,hf.2.2.2.1,hf.2.2.2.2.1,hf.2.2.2.2.2,zPm hrow⟩,h.len,fun j m hm=>?_⟩;obtain⟨u,hu,ht⟩:=h.kids j m (List.getElem?_eq_some_iff.1 hm).1 hm;exact⟨u,hu,ht.keep (fun b hb=>⟨by omega,by omega,fun e=>by injection e with e;exact hb.2.2.2 e⟩) (fun p hp=>⟨World.cell?_of_block (h7 _ Kb),World.frozen?_of_block (h7 _ Kb)⟩)⟩
theorem zV1 (g:Nat):∀(d:Nat)(w:World)(v:Value)(n:NT),w.cell? ⟨g,0,none⟩=some (.func (.func 79) #[] #[.pointer (some ⟨g,0,none⟩)])->zV d w w.heap.size v n->
      Calls Tryz.prog 79 #[v,.pointer (some ⟨g,0,none⟩)] w (zPu (d-1) n w):=by
 intro d;induction d with
 |zero=>intro w v n _ h;exact h.elim
 | succ d ih=>
  have ih2:∀(w:World)(v:Value)(n:NT),w.cell? ⟨g,0,none⟩=some (.func (.func 79) #[] #[.pointer (some ⟨g,0,none⟩)])->zV d w w.heap.size v n->Calls Tryz.prog 79 #[v,.pointer (some ⟨g,0,none⟩)] w (zVf d n w):=by
   intro w v n h1 h2;cases d with
   |zero=>exact h2.elim
   |succ d0=>exact(ih w v n h1 h2).mono fun e w' hh=>hh.copied
  clear ih;intro w v n hg hn;obtain⟨d1,lf,ps,tx,ks,PA,pc,TA,tc,KA,kc,hd1,rfl,rfl,hp,ht,hf,hks⟩:=hn.open_;obtain rfl:d=d1:=Kb;obtain⟨wb,hwb⟩:∃wb,wb=(w.alloc (.cells #[.bool lf,.slice PA ps.length pc,.slice TA tx.length tc,.slice KA ks.length kc] 26)).alloc (.cells #[.bool false,.slice none 0 0,.slice none 0 0,.slice none 0 0] 26):=⟨_,rfl⟩;have hb1:Below w.heap.size w wb:=hwb▸kM Kl Km;have X:=(Box.new w (.bool lf) (.slice PA ps.length pc) (.slice TA tx.length tc) (.slice KA ks.length kc) 26).alloc (.cells #[.bool false,.slice none 0 0,.slice none 0 0,.slice none 0 0] 26);rw[<-hwb]at X;have HP:=fun(w':World)(hb0:Below wb.heap.size wb w')=>hd (zTx PA ps pc w' hf.2.1 ((hp.below (hb1.trans (hb0.mono hb1.size))).more (hb1.trans (hb0.mono hb1.size)).size));have HT:=fun(w':World)(hb0:Below wb.heap.size wb w')=>hd (zTy TA tx tc w' hf.2.2.1 ((ht.below (hb1.trans (hb0.mono hb1.size))).more (hb1.trans (hb0.mono hb1.size)).size));have dz:=hd (show wb.heap[w.heap.size+1]? =some (.cells #[.bool false,.slice none 0 0,.slice none 0 0,.slice none 0 0] 26) by rw[hwb,<-sz1 (w:=w) (A:=(.cells #[.bool lf,.slice PA ps.length pc,.slice TA tx.length tc,.slice KA ks.length kc] 26))];exact heap_alloc_new _ _);obtain⟨cs,hcs,hmk⟩:=zGt zWg ks.length (by have:=hf.2.2.2.1;omega) (by have:=hf.2.2.2.1;omega);have qw:=hd hcs;have bU:=hd hks;have HG:=hd hg;have HF:=hd hf;have HB:=hd hb1;have HX:=hd X;have cY:=hf.2.2.2.1;obtain⟨x0,x1,x2,x3⟩:=X;subst hwb;clear hn hp ht hf hks hd1 hb1 hg hcs;go_enter Tryz.func79,Tryz.ntmps79
  go_wp2_with fail
  go_upto_region 1 with fail
  go_cut [4] (fun s4 wx=>kFt w lf ps tx (.slice KA ks.length kc) s4 wx)
  case first=>
   go_region_held3(fun w'=>Below ((w.alloc (.cells #[.bool lf,.slice PA ps.length pc,.slice TA tx.length tc,.slice KA ks.length kc] 26)).alloc (.cells #[.bool false,.slice none 0 0,.slice none 0 0,.slice none 0 0] 26)).heap.size ((w.alloc (.cells #[.bool lf,.slice PA ps.length pc,.slice TA tx.length tc,.slice KA ks.length kc] 26)).alloc (.cells #[.bool false,.slice none 0 0,.slice none 0 0,.slice none 0 0] 26)) w'/\w'.cell? ⟨w.heap.size,0,none⟩=some (.bool lf)/\w'.cell? ⟨w.heap.size,1,none⟩=some (.slice PA ps.length pc)/\w'.cell? ⟨w.heap.size,2,none⟩=some (.slice TA tx.length tc)/\w'.cell? ⟨w.heap.size,3,none⟩=some (.slice KA ks.length kc))
    (first
     |assumption
     |exact⟨Kl.drew,x0,x1,x2,x3⟩
     |exact zXl ‹_› (Kl.alloc Km _)
     |exact kBg ‹_› Kf (by first|exact Dn.1.size|simp))
    (first
     |(go_at_call 80;refine Calls.mono (HP _ ?hh).o ?_;(case hh=>(go_split_ands;assumption));intro e w2 h2;obtain⟨gp,cp,rfl,vp,b2,nE,AR⟩:=h2.vp;have Dn:=zXl ‹_› b2;have oP:=hd vp;have nG:=hd AR;clear AR;(first|have vI:=hd (kBf (w:=w) (Z:=(.cells #[.bool false,.slice none 0 0,.slice none 0 0,.slice none 0 0] 26)) b2)|skip);clear h2 vp)
     |(go_at_call 81;refine Calls.mono (HT _ ?hh).o ?_;(case hh=>(go_split_ands;assumption));intro e w3 h3;obtain⟨gt,ct,rfl,vt,b3,hct,AU⟩:=h3.vp;have vJ:=zXl ‹_› b3;have oQ:=hd vt;have xX:=hd AU;clear AU;(first|(have nH:=hd (kI vI.o b3);have qf:=zJ nH.o;obtain⟨q0,q1,q2,q3,q4,q5,q6,q7⟩:=qf)|(have nH:=hd (kFw (W0:=w2) (o:=(.cells #[.bool false,.slice none 0 0,.slice none 0 0,.slice none 0 0] 26)) b3 (g:=w2.heap.size) rfl);have qf:=zJ nH.o;obtain⟨q0,q1,q2,q3,q4,q5,q6,q7⟩:=qf)|skip);clear h3 vt))
   ·go_wp2_with fail
    go_meet
    exact zNb (w3:=w3) (zSb nE hct HB.o dz.o vJ oP.o oQ.o b3 (by rw[sz2];exact Nat.le_refl _) (by have h:=b2.size;rw[sz2]at h;omega) (by have h:=b2.size;rw[sz2]at h;have:=b3.size;omega)) rfl (heap_alloc_new _ _) (zT0 nG.o xX.o b3 (by rw[sz2];exact Nat.le_refl _) (by have h:=b2.size;rw[sz2]at h;omega)) (zGj.of_below (Kl.alloc Km _))
   ·go_wp2_with fail
    go_meet
    exact zNb (w3:=w3) (zJ4 nE hct HB.o dz.o vJ oP.o oQ.o (zEu b3) nH.o (by have h:=b2.size;rw[sz2]at h;omega) (by rw[sz2];exact Nat.le_refl _) (by rw[sz1];have h:=b2.size;rw[sz2]at h;omega) (fun b _ h=>by omega) (fun b h=>by rw[sz1]at h;omega)) rfl (kD nH.o) (zT0 nG.o xX.o (zEu b3) (by rw[sz2];exact Nat.le_refl _) (by rw[sz1];have h:=b2.size;rw[sz2]at h;omega)) (zOj nH.o)
   ·go_wp2_with fail
    go_meet
    exact zNb (w3:=w3) (zJ4 nE hct HB.o dz.o vJ oP.o oQ.o b3 nH.o Kb (by rw[sz3];omega) (by have h:=b2.size;rw[sz3]at h;omega) (fun b h _=>by rw[sz3]at h;omega) (fun b h=>by have h2:=b2.size;rw[sz3]at h2;omega)) rfl (kD nH.o) (zT0 nG.o xX.o b3 (by rw[sz3];omega) (by have h:=b2.size;rw[sz3]at h;omega)) (zOj nH.o)
  case rest=>
   obtain⟨gO,gp,cp,gt,ct,rfl,bf,hr4,xU,k3,hO,oP,oQ,nE,hct,hpt⟩:=hcut;have cZ:=hd hpt;clear hpt;obtain⟨o0,o1,o2,o3,f0,f1,f2,f3⟩:=zJ hO;have rY:=lt_of_block hO;have HO:=hd hO;have gV:=hd bf;have oP:=hd oP;have oQ:=hd oQ;have hk3:((wc.setCell ⟨gO,3,none⟩ (.slice (some ⟨wc.heap.size,0,none⟩) 0 ks.length)).alloc (.cells cs 26)).cell? ⟨w.heap.size,3,none⟩=some (.slice KA ks.length kc):=by
    rw[World.cell?_alloc_lt _ _ _ (by have:=kQ k3;simpa using this),World.cell?_setCell_other _ _ _ _ (by simp;try omega)];exact k3
   have ub:=hd (show zGk w d lf ps tx ks gO gp cp gt ct 0 wc.heap.size ks.length [] _ from⟨zOl (d:=d) (ks:=ks) xU hO bf hr4 oP.o oQ.o qw.o cY,cZ.o.keep ((zGj.of_but hO (fun b hb _=>Below.heap_setCell wc (a:=⟨gO,3,none⟩) (.slice (some ⟨wc.heap.size,0,none⟩) 0 ks.length) b (by simpa using hb))).trans (zGj.of_below (Kl.alloc Km _)) Kc)⟩);clear cZ;clear hO bf hr4 HP HT x0 x1 x2 x3 HX HB oP oQ dz;go_wp2_with fail
   clear hk3 k3 o0 o1 o2 o3 f0 f1 f2 f3 hmk;go_loopw [24] (fun i wr=>∃(k gk cap:Nat)(us:List Value),k<=ks.length/\i=.int .i64 k/\Kr (zGk w d lf ps tx ks gO gp cp gt ct k gk cap us wr)) (fun i _=>ks.length-(intOf i).toNat)
   case atStart=>exact⟨0,_,_,_,Nat.zero_le _,rfl,ub⟩
   case round=>
    obtain⟨k,gk,cap,us,hk,rfl,HL⟩:=hrel;clear ub;have hbr:=HL.o.loop.below;by_cases hlt:k<ks.length
    ·obtain⟨m,b,o,lf1,cI,cP,cJ,cK,cQ,cL,cM,cR,kc1,hm,rfl,hbg,cV,c0,c1,c2,c3⟩:=(bU.o.below hbr).at_ hlt;have hsz:=hbr.size;have jx:=HL.o.loop.o;have jh:=lt_of_block jx;have HM:=hd hm;obtain⟨p0,p1,p2,p3,g0,g1,g2,g3⟩:=zJ jx;have qg:wr.cell? ⟨g,0,none⟩=some (.func (.func 79) #[] #[.pointer (some ⟨g,0,none⟩)]):=(hbr.cell (kQ HG.o)).trans HG.o;have hgl:=kQ qg;obtain⟨wk,hwk⟩:∃wk,wk=(wr.alloc (.cells #[.bool lf1,.slice cI cP cJ,.slice cK cQ cL,.slice cM cR kc1] 26)).drew:=⟨_,rfl⟩;have hbk:Below wr.heap.size wr wk:=hwk▸(Kl.alloc Km _).drew;have HC:=hd (ih2 wk _ m ((hbk.cell (kQ qg)).trans qg) (((cV.more hsz).below hbk).more hbk.size));have eJ:=hd hbk;have sO:wk.heap[gO]? =_:=(hbk.block _ jh).trans jx;have bi:=hd sO;have hks:=hd (show wk.heap.size=wr.heap.size+1 by rw[hwk];exact sz1);have lB:=kQ HG.o;have Dp:=HL.o.loop.row.lt gk rfl;have lR:=HL.o.loop.apart;obtain⟨i0,hi,hz0,hz1,hz2⟩:=info_parts zJj;subst hwk;clear cV hbk hm jx hbr sO;go_upto_block 1 with fail
     go_cut [24] (fun s wx=>s=.int .i64 k/\∃(g6 bz:Nat)(iK:List Value),Kr (zGk w d lf ps tx ks gO gp cp gt ct (k+1) g6 bz iK wx))
     case first=>
      go_wp2_with fail
      go_region_law(first
        |((go_simp;go_at_call 79;refine HC.o.mono ?_;intro e w4 h4;obtain⟨v4,rfl,dX,hb4⟩:=h4;obtain⟨lf4,aZ,bE,aW,ba,bG,aX,bA,bH,bB,rfl⟩:=(dX.at_ (B:=w4.heap.size) (fun b hb=>hb.2)).val;obtain⟨hs4,eT⟩:=zIk hb4;have xY:=hd ((eT gO jh).trans HL.o.loop.o);obtain⟨r0,r1,r2,r3,r4,r5,r6,r7⟩:=zJ xY.o;have Dq:gO<w4.heap.size:=Kb;have hrow4:=hd (zG5 HL.o.loop.row eT);have xZ:=hd eT;clear eT;have bf:=hd hb4;have lG:=hd dX;clear dX hb4))
        |((refine step_append_lies _ Ke (.tmp 29) (.tmp 33) _ Ke (w.heap.size+2) 26 i0 _ 4 80 Tryz.underlying24 hi hz0 hz1 hz2 rfl Kb (.slice (some ⟨gk,0,none⟩) k cap) k (us.flatMap fun u=>u.cells.toList) (by first|rfl|simp[Act.eval]) (hrow4.o.alloc _) ⟨w4.heap.size,0,none⟩ 1 1 [.bool lf4,.slice aZ bE aW,.slice ba bG aX,.slice bA bH bB] (by first|rfl|simp[Act.eval]) Ke (World.news_of_block (cs:=#[.bool lf4,.slice aZ bE aW,.slice ba bG aX,.slice bA bH bB]) (t:=26) (fr:=(0,0)) (heap_alloc_new w4 _)) (by simp[Value.oneCell']) Kb Kg Kb Kf (w4.heap.size+1) Kc ?_;intro g6 bz w6 aT au bO nI;have iw:=hd (zNe au xY.o lR);obtain⟨s0,s1,s2,s3,s4,s5,s6,s7⟩:=zJ iw.o;have nJ:=lt_of_block iw.o)))
      all_goals
       have HST:=hd (zXc HL.o bf.o au (zSc HL.o.loop HM.o bf.o lG.o au aT bO))
       clear au aT bO s0 s1 s2 s3 s4 s5 s6 s7 r0 r1 r2 r3 r4 r5 r6 r7 hrow4 xY iw xZ bf lG p0 p1 p2 p3 g0 g1 g2 g3 c0 c1 c2 c3
       go_wp2_with fail
       go_meet
       exact⟨rfl,g6,bz,_,HST⟩
     case rest=>
      obtain⟨rfl,g6,bz,iK,HST⟩:=hcut;clear p0 p1 p2 p3 g0 g1 g2 g3 c0 c1 c2 c3;go_wp2
      go_roundw
      case rel=>exact⟨k+1,g6,bz,iK,by omega,by go_num,HST⟩
      case measure=>simp[intOf];omega
    ·obtain rfl:k=ks.length:=Kb;have lS:=HL.o.loop.o;have ya:=lt_of_block lS;obtain⟨p0,p1,p2,p3,_,_,_,_⟩:=zJ lS;clear lS;obtain⟨q0,q1,q2,q3,q4,q5,q6,q7⟩:=zJ HL.o.loop.res;have yb:=hd HL.o.loop.res;have hbr:=HL.o.loop.below;go_wp2
     have h7:=kD (a:=.bool lf) (b:=.slice (some ⟨gp,0,none⟩) ps.length cp) (c:=.slice (some ⟨gt,0,none⟩) tx.length ct) (d:=.slice (some ⟨gk,0,none⟩) ks.length cap) yb.o;obtain⟨t0,t1,t2,t3,_,_,_,_⟩:=zJ h7;refine bodyPost_ret (v:=.agg #[.bool lf,.slice (some ⟨gp,0,none⟩) ps.length cp,.slice (some ⟨gt,0,none⟩) tx.length ct,.slice (some ⟨gk,0,none⟩) ks.length cap]) (by simp[results,Tryz.results79,go_sem,t0,t1,t2,t3]) rfl ⟨_,rfl,kA3 HL.o ⟨HF.o.1,HF.o.2.1,HF.o.2.2.1,HF.o.2.2.2.1,nE,hct⟩ Kc (fun b hb=>?_),?_⟩
     ·iterate 4 rw[Below.heap_setCell _ _ _ _ (by simpa using hb)]
     ·exact(((hbr.setCell (by show _<=w.heap.size+1;omega) _).setCell (by show _<=w.heap.size+1;omega) _).setCell (by show _<=w.heap.size+1;omega) _).setCell (by show _<=w.heap.size+1;omega) _
theorem zYx (d:Nat)(w:World)(v:Value)(n:NT)(hn:zV d w w.heap.size v n):Calls Tryz.prog 41 #[v] w (zPu (d-1) n w):=by
 have hn0:=hn;obtain⟨lf,PA,np,pc,TA,nt,tc,KA,nk,kc,rfl⟩:=hn.val;obtain⟨f0,nv⟩:∃f:Value,f=.func (.func 79) #[] #[.pointer (some ⟨w.heap.size+1+1,0,none⟩)]:=⟨_,rfl⟩;obtain⟨wa,gP⟩:∃wa,wa=((w.alloc (.cells #[.bool lf,.slice PA np pc,.slice TA nt tc,.slice KA nk kc] 26)).alloc (.cells #[.bool false,.slice none 0 0,.slice none 0 0,.slice none 0 0] 26)).alloc (.cells #[f0] 91):=⟨_,rfl⟩;have cO:Below w.heap.size w wa:=gP▸(kM Kl Km).alloc Kf _;have rW:wa.cell? ⟨w.heap.size+1+1,0,none⟩=some f0:=by rw[gP,World.cell?_alloc_at _ _ _ _ Kc];rfl
 have hsa:wa.heap.size=w.heap.size+3:=by rw[gP];simp
 have mW:wa.heap[w.heap.size+1]? =some (.cells #[.bool false,.slice none 0 0,.slice none 0 0,.slice none 0 0] 26):=by
  rw[gP,Below.heap_alloc _ _ _ Kc];rw[<-sz1 (w:=w) (A:=.cells #[.bool lf,.slice PA np pc,.slice TA nt tc,.slice KA nk kc] 26)];exact heap_alloc_new _ _
 have HC:=hd (zV1 (w.heap.size+1+1) d wa _ _ (nv▸rW) (hn0.later cO));have HB:=hd cO;have HR:=hd mW;have HS:=hd hsa;subst gP nv;clear hn hn0 cO rW mW hsa;go_enter Tryz.func41,Tryz.ntmps41
 go_wp2_with(first|(refine HC.o.mono ?_;intro e w' h4;obtain⟨v4,rfl,dX,hb4⟩:=h4;obtain⟨lf4,aZ,bE,aW,ba,bG,aX,bA,bH,bB,rfl⟩:=dX.val;have fy:=hd ((hb4.block (w.heap.size+1) (by rw[HS.o];omega)).trans HR.o);obtain⟨r0,r1,r2,r3,r4,r5,r6,r7⟩:=zJ fy.o;have lG:=hd dX;have bf:=hd hb4;clear dX hb4))
 have h7:=kD (a:=.bool lf4) (b:=.slice aZ bE aW) (c:=.slice ba bG aX) (d:=.slice bA bH bB) fy.o;obtain⟨t0,t1,t2,t3,_,_,_,_⟩:=zJ h7;have hsz:=bf.o.size;rw[HS.o]at hsz;have AV:=lG.o;rw[HS.o]at AV;have oU:Below w.heap.size w w':=HB.o.trans (bf.o.mono (by rw[HS.o];omega));refine bodyPost_ret (v:=.agg #[.bool lf4,.slice aZ bE aW,.slice ba bG aX,.slice bA bH bB]) (by simp[results,Tryz.results41,go_sem,t0,t1,t2,t3]) rfl ⟨_,rfl,(AV.keep Kc (fun b h1 _=>?_)).base Kb,?_⟩
 ·have hne:b≠w.heap.size+1:=Kb;iterate 4 rw[Below.heap_setCell _ _ _ _ (by simpa using hne)]
 ·exact(((oU.setCell (by show _<=w.heap.size+1;omega) _).setCell (by show _<=w.heap.size+1;omega) _).setCell (by show _<=w.heap.size+1;omega) _).setCell (by show _<=w.heap.size+1;omega) _
theorem zTs (l m:List Int)(K:Nat)(hK:K=kO l m)(h:K+1≠l.length∨¬K<m.length∨¬iAt l K<iAt m K):zFg l m=false:=by
 subst hK;cases h2:zFg l m
 ·rfl
 ·rw[zEe]at h2;omega
theorem kPr {P:Prop}(h:P:=by
 go_enter Tryz.func115,Tryz.ntmps115
 go_wp2_with(go_at_call 51;refine HC.o.mono ?_;rintro e w' ⟨rfl,kd,rfl⟩)
 go_quiet(fail)
 go_wp2
 go_ret
 exact kW (zA3 (by rw[HF.o])) Ki):P:=h
theorem kAs (A B:Option Addr)(l m:List Int)(c d:Nat)(w:World)(hl:l.length<=9223372036854775807)(hm:m.length<=9223372036854775807)(hp:IL w w.heap.size A l)(hq:IL w w.heap.size B m):
  Calls Tryz.prog 115 #[.slice A l.length c,.slice B m.length d] w (zHa (.bool (zFg l m)) w):=by
 have HC:=hd (zH5 A B l m c d w hl hm hp hq);have hN:=zHf l m;obtain⟨K,hK⟩:∃K,K=kO l m:=⟨_,rfl⟩;rw[<-hK]at HC hN;have HK:=hd hK;clear hK;have ws:IntKind.i64.wrap ((l.length:Int)-1)=(l.length:Int)-1:=IntWalk.i64_in _ Kb;by_cases h1:K+1=l.length
 ·have hx:((K:Int)==(l.length:Int)-1)=true:=by simp;omega
  by_cases h2:K<m.length
  ·obtain⟨b1,o1,rfl,bl,c1⟩:=hp.at_ (show K<l.length by omega);obtain⟨b2,o2,rfl,hl2,c2⟩:=hq.at_ h2;have h0:K<l.length:=Kb;by_cases h3:iAt l K<iAt m K
   ·have HF:=hd ((zEe l m).2 (by rw[<-HK.o];exact⟨h1,h2,h3⟩));clear hp hq hN h1;exact kPr
   ·have HF:=hd (zTs l m K HK.o (.inr (.inr h3)));have h3':decide (iAt l K<iAt m K)=false:=decide_eq_false h3;clear hp hq hN h1 h3;exact kPr
  ·have HF:=hd (zTs l m K HK.o (.inr (.inl h2)));have h2':decide (K<m.length)=false:=decide_eq_false h2;clear hp hq hN h1 h2;exact kPr
 ·have HF:=hd (zTs l m K HK.o (.inl h1));have hx:((K:Int)==(l.length:Int)-1)=false:=by simp;omega
  clear hp hq hN h1;exact kPr
theorem kW4 :(Tryz.prog.info? 27).map (fun i=>(i.zero,i.size,i.bytes))=some (some (.slice none 0 0),1,24):=Ka
def lAt (L:List (List Int))(k:Nat):List Int:=L.getD k []
theorem kSa (L:List (List Int))(k:Nat)(hk:k<L.length):lAt L k=L[k]:=by
 unfold lAt;rw[List.getD_eq_getElem?_getD,List.getElem?_eq_getElem hk];rfl
def RL (w:World)(B:Nat)(A:Option Addr)(L:List (List Int)):Prop:=
 L≠[]->∃b o,A=some ⟨b,o,none⟩/\b<B/\∀k,k<L.length->∃(Ak:Option Addr)(ck:Nat),w.cell? ⟨b,o+k,none⟩=some (.slice Ak (lAt L k).length ck)/\(lAt L k).length<=ck/\IL w B Ak (lAt L k)
theorem RL.keep (h:RL w B A L)(hk:∀p:Addr,p.block<B->w'.cell? p=w.cell? p):RL w' B A L:=fun hn=>by
 obtain⟨b,o,e,hb,hc⟩:=h hn;refine⟨b,o,e,hb,fun k hkl=>?_⟩;obtain⟨Ak,ck,h1,h2,h3⟩:=hc k hkl;exact⟨Ak,ck,(hk _ hb).trans h1,h2,h3.keep hk⟩
theorem RL.below (h:RL w B A L)(hb:Below B w w'):RL w' B A L:=h.keep fun _ hp=>hb.cell hp
theorem RL.more {B':Nat}(h:RL w B A L)(hB:B<=B'):RL w B' A L:=fun hn=>by
 obtain⟨b,o,e,hb,hc⟩:=h hn;refine⟨b,o,e,by omega,fun k hkl=>?_⟩;obtain⟨Ak,ck,h1,h2,h3⟩:=hc k hkl;exact⟨Ak,ck,h1,h2,h3.more hB⟩
theorem RL.later (h:RL w w.heap.size A L)(hb:Below w.heap.size w w'):RL w' w'.heap.size A L:=(h.below hb).more hb.size
theorem RL.at_ (h:RL w B A L)(hk:k<L.length):
  ∃b o Ak ck,A=some ⟨b,o,none⟩/\b<B/\w.cell? ⟨b,o+k,none⟩=some (.slice Ak (lAt L k).length ck)/\(lAt L k).length<=ck/\IL w B Ak (lAt L k):=by
 obtain⟨b,o,e,hb,hc⟩:=h (by intro e;subst e;simp at hk);obtain⟨Ak,ck,h1,h2,h3⟩:=hc k hk;exact⟨b,o,Ak,ck,e,hb,h1,h2,h3⟩
theorem zJz {e e' s s' n n':Nat}{ys:List Value}(h:w.ownsRow b e s v n xs)(h':w.ownsRow b' e' s' u n' ys)(hne:e≠e'):u.ownBlock=none∨u.ownBlock≠v.ownBlock:=by
 rcases h'.2 with⟨rfl,_⟩|⟨g',cap',cur',rfl,_,hg',_⟩
 ·exact .inl rfl
 ·rcases h.2 with⟨rfl,_⟩|⟨g,cap,cur,rfl,_,hg,_⟩
  ·exact .inr (by simp[Value.ownBlock])
  ·refine .inr fun hh=>?_;simp only[Value.ownBlock,Option.some.injEq]at hh;rw[hh,hg]at hg';injection hg' with hg';injection hg' with _ h2;exact hne h2
theorem zBt.grown {n:Nat}(h:zBt w b u l)(hr:w.ownsRow b' 27 1 v n xs)(hg:w.grownBy w' v.ownBlock):zBt w' b u l:=
 zBt.of_own (h.own.kept hg (zJz hr h.own Kd)) rfl
theorem zBt.open_at (h:zBt w b v l)(n:Nat)(hn:l.length=n):∃(A:Option Addr)(c:Nat),v=.slice A n c/\n<=c/\IL w w.heap.size A l:=by
 subst hn;obtain⟨A,c,h1,h2,_,h3⟩:=h.open_;exact⟨A,c,h1,h2,h3⟩
