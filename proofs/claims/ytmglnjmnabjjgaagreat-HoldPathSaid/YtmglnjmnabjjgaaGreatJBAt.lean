import Derived.Test.YtmglnjmnabjjgaaGreatJXMove
import Derived.Test.YtmglnjmnabjjgaaGreatRows
import Derived.ProofKit
import Derived.OpenShut
import Derived.Deep.Fields
set_option maxRecDepth 4000
namespace Go.Proofs.YtmglnjmnabjjgaaGreat
open Go.RowKit
variable {A B:Option Addr}{x y:Int}{s:Sl}{l:List Int}{ops:Array Oper}{rest:List Oper}{op:Oper}{a:Act}{fn:Func}{p:List MemPlace}{r:Reach}
structure OC where
 k:Int
 Q:Option Addr
 lq:Nat
 cq:Nat
 T:Option Addr
 lt:Nat
 ct:Nat
 z:Int
 lf:Bool
 P:Option Addr
 np:Nat
 pc:Nat
 X:Option Addr
 nt:Nat
 tc:Nat
 K:Option Addr
 nk:Nat
 kc:Nat
 O:Option Addr
 no:Nat
 co:Nat
 W:Option Addr
 nw:Nat
 cw:Nat
 S:Option Addr
 nx:Nat
 cx:Nat
 fi:Bool
 F1:Option Addr
 f1:Nat
 d1:Nat
 fo:Int
 F2:Option Addr
 f2:Nat
 d2:Nat
 fp:Int
 gi:Bool
 G1:Option Addr
 g1:Nat
 e1:Nat
 go:Int
 G2:Option Addr
 g2:Nat
 e2:Nat
 gp:Int
def OC.row (c:OC):Array Value:=#[.int .i64 c.k,.slice c.Q c.lq c.cq,.slice c.T c.lt c.ct,.int .i64 c.z,.bool c.lf,.slice c.P c.np c.pc,.slice c.X c.nt c.tc,.slice c.K c.nk c.kc,.slice c.O c.no c.co,.slice c.W c.nw c.cw,.slice c.S c.nx c.cx,
 .bool c.fi,.slice c.F1 c.f1 c.d1,.int .i64 c.fo,.slice c.F2 c.f2 c.d2,.int .i64 c.fp,.bool c.gi,.slice c.G1 c.g1 c.e1,.int .i64 c.go,.slice c.G2 c.g2 c.e2,.int .i64 c.gp]
def OC.zero :OC:=⟨0,none,0,0,none,0,0,0,false,none,0,0,none,0,0,none,0,0,none,0,0,none,0,0,none,0,0,false,none,0,0,0,none,0,0,0,false,none,0,0,0,none,0,0,0⟩
theorem OC.size (c:OC):c.row.size=21:=rfl
theorem OC.one (c:OC):c.row.all (·.oneCell')=true:=Ka
def OC.node (c:OC):Value:=.agg #[.bool c.lf,.slice c.P c.np c.pc,.slice c.X c.nt c.tc,.slice c.K c.nk c.kc]
structure zIi (w:World)(is:Bool)(A:Option Addr)(n c:Nat)(x:Int)(B:Option Addr)(m d:Nat)(y:Int)(s:Sl):Prop where
 his:s.is=is
 hx:s.a.2=x
 hy:s.f.2=y
 hn:s.a.1.length=n
 hm:s.f.1.length=m
 hc:n<=c
 hd:m<=d
 hmn:n<=9223372036854775807
 hmm:m<=9223372036854775807
 hA:IL w w.heap.size A s.a.1
 hB:IL w w.heap.size B s.f.1
theorem zIi.later {w w':World}{is:Bool}{n c:Nat}{m d:Nat}(h:zIi w is A n c x B m d y s)(hb:Below w.heap.size w w'):zIi w' is A n c x B m d y s:=
 ⟨h.his,h.hx,h.hy,h.hn,h.hm,h.hc,h.hd,h.hmn,h.hmm,h.hA.later hb,h.hB.later hb⟩
theorem zIi.zero (w:World):zIi w false none 0 0 0 none 0 0 0 zeroS:=⟨rfl,rfl,rfl,rfl,rfl,by omega,by omega,by omega,by omega,IL.nil _ _ _,IL.nil _ _ _⟩
theorem zIi.two {w:World}{is:Bool}{n c:Nat}{m d:Nat}(h:zIi w is A n c x B m d y s)(h1:n<=10000000)(h2:m<=10000000):
  zI4 w (.agg #[.slice A n c,.int .i64 x]) s.a/\zI4 w (.agg #[.slice B m d,.int .i64 y]) s.f:=
 ⟨⟨A,n,c,by rw[h.hx],h.hn,h1,h.hc,h.hA⟩,⟨B,m,d,by rw[h.hy],h.hm,h2,h.hd,h.hB⟩⟩
def InI (l:List Int):Prop:=∀k,k<l.length->iAt l k<=9223372036854775807/\ -9223372036854775808<=iAt l k
theorem InI.nil :InI []:=fun _ h=>absurd h (Nat.not_lt_zero _)
structure OkA (w:World)(c:OC)(o:OpP):Prop where
 hk:o.k=c.k
 hik:zFf o.k
 hz:o.z=c.z
 hlq:o.q.length=c.lq
 hcq:c.lq<=c.cq
 hmq:c.lq<=9223372036854775807
 hq:IL w w.heap.size c.Q o.q
 hiq:InI o.q
 hlt:o.t.length=c.lt
 hct:c.lt<=c.ct
 hmt:c.lt<=9223372036854775807
 ht:IL w w.heap.size c.T o.t
 hit:InI o.t
 hn:∃d,zV d w w.heap.size c.node o.n
 hno:o.o.length=c.no
 hco:c.no<=c.co
 hmo:c.no<=4398046511104
 hwo:zIo o.o
 ho:PL w w.heap.size c.O o.o
 hnw:o.w.length=c.nw
 hcw:c.nw<=c.cw
 hmw:c.nw<=4398046511104
 hww:zIo o.w
 hw:PL w w.heap.size c.W o.w
 hnx:o.x.length=c.nx
 hcx:c.nx<=c.cx
 hmx:c.nx<=35184372088832
 hx:VL w w.heap.size c.S (rv o.x)
 hf:zIi w c.fi c.F1 c.f1 c.d1 c.fo c.F2 c.f2 c.d2 c.fp o.f
 hg:zIi w c.gi c.G1 c.g1 c.e1 c.go c.G2 c.g2 c.e2 c.gp o.g
theorem PL.later {w w':World}{l:List Pr}(h:PL w w.heap.size A l)(hb:Below w.heap.size w w'):PL w' w'.heap.size A l:=(h.below hb).more hb.size
theorem OkA.later {w w':World}{c:OC}{o:OpP}(h:OkA w c o)(hb:Below w.heap.size w w'):OkA w' c o:=
 {h with hq:=h.hq.later hb,ht:=h.ht.later hb,hn:=(by obtain⟨d,hn⟩:=h.hn;exact⟨d,hn.later hb⟩),ho:=h.ho.later hb,hw:=h.hw.later hb,hx:=h.hx.later hb,hf:=h.hf.later hb,hg:=h.hg.later hb}
theorem PL.none (w:World)(B:Nat)(A:Option Addr):PL w B A []:=fun h=>absurd rfl h
theorem zIo.none :zIo []:=⟨by simp,by simp⟩
theorem zEh (w:World)(B:Nat):zV 1 w B (.agg #[.bool false,.slice none 0 0,.slice none 0 0,.slice none 0 0]) zeroT:=
 zV.shut rfl rfl rfl (PL.none _ _ _) (VL.nil _ _ _) zPl (fun k m h=>by simp at h)
theorem OkA.zero (w:World):OkA w OC.zero zeroO:=
 ⟨rfl,⟨by decide,by decide⟩,rfl,rfl,by decide,by decide,IL.nil _ _ _,InI.nil,rfl,by decide,by decide,IL.nil _ _ _,InI.nil,⟨1,zEh _ _⟩,rfl,by decide,by decide,zIo.none,PL.none _ _ _,rfl,by decide,by decide,zIo.none,PL.none _ _ _,rfl,by decide,by decide,VL.nil _ _ _,zIi.zero _,zIi.zero _⟩
section
variable {w:World}{c:OC}{o:OpP}
theorem OkA.setK (h:OkA w c o){k:Int}(hk:zFf k):OkA w {c with k:=k} {o with k:=k}:={h with hk:=rfl,hik:=hk}
theorem OkA.setZ (h:OkA w c o)(z:Int):OkA w {c with z:=z} {o with z:=z}:={h with hz:=rfl}
theorem OkA.setQ (h:OkA w c o){n d:Nat}(h1:l.length=n)(h2:n<=d)(h3:n<=9223372036854775807)(h4:IL w w.heap.size A l)(h5:InI l):OkA w {c with Q:=A,lq:=n,cq:=d} {o with q:=l}:={h with hlq:=h1,hcq:=h2,hmq:=h3,hq:=h4,hiq:=h5}
theorem OkA.setT (h:OkA w c o){n d:Nat}(h1:l.length=n)(h2:n<=d)(h3:n<=9223372036854775807)(h4:IL w w.heap.size A l)(h5:InI l):OkA w {c with T:=A,lt:=n,ct:=d} {o with t:=l}:={h with hlt:=h1,hct:=h2,hmt:=h3,ht:=h4,hit:=h5}
theorem OkA.setN (h:OkA w c o){d np pc nt tc nk kc:Nat}{lf:Bool}{P X K:Option Addr}{n:NT}(h1:zV d w w.heap.size (.agg #[.bool lf,.slice P np pc,.slice X nt tc,.slice K nk kc]) n):OkA w {c with lf:=lf,P:=P,np:=np,pc:=pc,X:=X,nt:=nt,tc:=tc,K:=K,nk:=nk,kc:=kc} {o with n:=n}:={h with hn:=⟨d,h1⟩}
theorem OkA.setO (h:OkA w c o){n d:Nat}{l:List Pr}(h1:l.length=n)(h2:n<=d)(h3:n<=4398046511104)(h4:PL w w.heap.size A l)(h5:zIo l):OkA w {c with O:=A,no:=n,co:=d} {o with o:=l}:={h with hno:=h1,hco:=h2,hmo:=h3,ho:=h4,hwo:=h5}
theorem OkA.setW (h:OkA w c o){n d:Nat}{l:List Pr}(h1:l.length=n)(h2:n<=d)(h3:n<=4398046511104)(h4:PL w w.heap.size A l)(h5:zIo l):OkA w {c with W:=A,nw:=n,cw:=d} {o with w:=l}:={h with hnw:=h1,hcw:=h2,hmw:=h3,hw:=h4,hww:=h5}
theorem OkA.setX (h:OkA w c o){n d:Nat}(h1:l.length=n)(h2:n<=d)(h3:n<=35184372088832)(h4:VL w w.heap.size A (rv l)):OkA w {c with S:=A,nx:=n,cx:=d} {o with x:=l}:={h with hnx:=h1,hcx:=h2,hmx:=h3,hx:=h4}
theorem OkA.setF (h:OkA w c o){is:Bool}{n d:Nat}{m e:Nat}(h1:zIi w is A n d x B m e y s):OkA w {c with fi:=is,F1:=A,f1:=n,d1:=d,fo:=x,F2:=B,f2:=m,d2:=e,fp:=y} {o with f:=s}:={h with hf:=h1}
theorem OkA.setG (h:OkA w c o){is:Bool}{n d:Nat}{m e:Nat}(h1:zIi w is A n d x B m e y s):OkA w {c with gi:=is,G1:=A,g1:=n,e1:=d,go:=x,G2:=B,g2:=m,e2:=e,gp:=y} {o with g:=s}:={h with hg:=h1}
end
structure zAf (o:OpP):Prop where
 hq:o.q.length<=60
 ht:o.t.length<=60
 hx:o.x.length<=100
 ho:o.o.length<=40
 hw:o.w.length<=40
 hfa:o.f.a.1.length<=60
 hff:o.f.f.1.length<=60
 hga:o.g.a.1.length<=60
 hgf:o.g.f.1.length<=60
theorem zAf.zero :zAf zeroO:=⟨by decide,by decide,by decide,by decide,by decide,by decide,by decide,by decide,by decide⟩
def jR (w:World)(g:Nat)(c:OC):Prop:=w.heap[g]? =some (.cells c.row 35 (0,0))
section
variable {w w':World}{g:Nat}{c c':OC}
theorem jR.keep (h:jR w g c)(hb:Below w.heap.size w w'):jR w' g c:=zI1 h hb
theorem jR.lt (h:jR w g c):g<w.heap.size:=xlt h
theorem jR.new (w:World)(c:OC):jR (w.alloc (.cells c.row 35)) w.heap.size c:=heap_alloc_new _ _
theorem jR.cell (h:jR w g c)(j:Nat)(v:Value)(hv:c.row[j]? =some v):w.cell? ⟨g,j,none⟩=some v:=by
 unfold jR at h;simp only[World.cell?,h];simpa using hv
theorem jR.thaw (h:jR w g c)(j:Nat):w.frozen? ⟨g,j,none⟩=false:=by
 unfold jR at h;simp[World.frozen?,h]
theorem jR.ck (h:jR w g c):w.cell? ⟨g,0,none⟩=some (.int .i64 c.k):=h.cell 0 _ rfl
theorem jR.cq (h:jR w g c):w.cell? ⟨g,1,none⟩=some (.slice c.Q c.lq c.cq):=h.cell 1 _ rfl
theorem jR.ct (h:jR w g c):w.cell? ⟨g,2,none⟩=some (.slice c.T c.lt c.ct):=h.cell 2 _ rfl
theorem jR.cz (h:jR w g c):w.cell? ⟨g,3,none⟩=some (.int .i64 c.z):=h.cell 3 _ rfl
theorem jR.cn (h:jR w g c):w.cell? ⟨g,4,none⟩=some (.bool c.lf)/\w.cell? ⟨g,5,none⟩=some (.slice c.P c.np c.pc)/\w.cell? ⟨g,6,none⟩=some (.slice c.X c.nt c.tc)/\w.cell? ⟨g,7,none⟩=some (.slice c.K c.nk c.kc):=⟨h.cell 4 _ rfl,h.cell 5 _ rfl,h.cell 6 _ rfl,h.cell 7 _ rfl⟩
theorem jR.co (h:jR w g c):w.cell? ⟨g,8,none⟩=some (.slice c.O c.no c.co):=h.cell 8 _ rfl
theorem jR.cw (h:jR w g c):w.cell? ⟨g,9,none⟩=some (.slice c.W c.nw c.cw):=h.cell 9 _ rfl
theorem jR.cx (h:jR w g c):w.cell? ⟨g,10,none⟩=some (.slice c.S c.nx c.cx):=h.cell 10 _ rfl
theorem jR.cf (h:jR w g c):w.cell? ⟨g,11,none⟩=some (.bool c.fi)/\w.cell? ⟨g,12,none⟩=some (.slice c.F1 c.f1 c.d1)/\w.cell? ⟨g,13,none⟩=some (.int .i64 c.fo)/\w.cell? ⟨g,14,none⟩=some (.slice c.F2 c.f2 c.d2)/\w.cell? ⟨g,15,none⟩=some (.int .i64 c.fp):=⟨h.cell 11 _ rfl,h.cell 12 _ rfl,h.cell 13 _ rfl,h.cell 14 _ rfl,h.cell 15 _ rfl⟩
theorem jR.cg (h:jR w g c):w.cell? ⟨g,16,none⟩=some (.bool c.gi)/\w.cell? ⟨g,17,none⟩=some (.slice c.G1 c.g1 c.e1)/\w.cell? ⟨g,18,none⟩=some (.int .i64 c.go)/\w.cell? ⟨g,19,none⟩=some (.slice c.G2 c.g2 c.e2)/\w.cell? ⟨g,20,none⟩=some (.int .i64 c.gp):=⟨h.cell 16 _ rfl,h.cell 17 _ rfl,h.cell 18 _ rfl,h.cell 19 _ rfl,h.cell 20 _ rfl⟩
theorem jR.range (h:jR w g c):w.rangeAt g 0 c.row.toList:=fun j v hv=>by
 rw[Nat.zero_add];exact h.cell j v (by simpa using hv)
end
theorem zG {w:World}{Q:Exit->Act->World->Prop}{g:Nat}{c:OC}(h:jR w g c)
  (x:Operand) (ho:op.op=.load 35 x) (hgd:op.guard=none) (hx:a.eval x=.pointer (some ⟨g,0,none⟩)) (hk:wpList Tryz.prog ops Q rest (a.put op.dst (.agg c.row)) w):wpList Tryz.prog ops Q (op::rest) a w:=by
 obtain⟨d,h1,h2,h3⟩:=zK4;exact wpList_load_mid hgd 35 x ho g 0 hx c.row.toList d h.range h1 h2 h3 hk
theorem zAe {W:World}{Q:Exit->Act->World->Prop}{g:Nat}{old:Array Value}{c:OC}(x y:Operand)(ho:op.op=.store 35 x y)(hgd:op.guard=none)(hd:op.dst=none)(hx:a.eval x=.pointer (some ⟨g,0,none⟩))(hy:a.eval y=.agg c.row)(hg:W.heap.size=g)(hold:old.size=21)
  (hk:wpList Tryz.prog ops Q rest a (W.alloc (.cells c.row 35))):wpList Tryz.prog ops Q (op::rest) a (W.alloc (.cells old 35)):=by
 subst hg;obtain⟨d,h3,h4,h5⟩:=zK4;refine wpList_store_row hgd 35 x y ho W.heap.size _ hx hy 35 old (heap_alloc_new _ _) h5 hold c.one ?_;rw[zXk,hd];exact hk
theorem zKw (w:World)(g:Nat)(cells old:Array Value)(t:TypeId)(_h:w.heap[g]? =some (.cells old t (0,0))):Off g w (w.setRow g cells):=
 ⟨rfl,rfl,rfl,by show _<=(w.heap.modify g _).size;simp,fun k _ hne=>setRow_other _ _ _ _ hne⟩
theorem kF {W:World}{Q:Exit->Act->World->Prop}{g:Nat}{c0 c:OC}(h:jR W g c0)(x y:Operand)(ho:op.op=.store 35 x y)(hgd:op.guard=none)(hd:op.dst=none)(hx:a.eval x=.pointer (some ⟨g,0,none⟩))(hy:a.eval y=.agg c.row)
  (hk:∀W',jR W' g c->Off g W W'->wpList Tryz.prog ops Q rest a W'):wpList Tryz.prog ops Q (op::rest) a W:=by
 obtain⟨d,h3,h4,h5⟩:=zK4;refine wpList_store_row hgd 35 x y ho g _ hx hy 35 c0.row h h5 rfl c.one ?_;rw[hd];exact hk _ (setRow_heap _ _ c0.row c.row _ (0,0) h) (zKw _ _ _ _ _ h)
theorem zDv {p:Tmp}(h:fn.results=#[.cell p 35])(tmps:Array Value)(w:World){g:Nat}{c:OC}(hv:jR w g c)(hp:tmps.getD p undef=.pointer (some ⟨g,0,none⟩)):(results fn tmps).run Tryz.prog w=.ok (.agg c.row) w:=by
 obtain⟨d,h3,h4,h5⟩:=zK4;exact results_cell_row h tmps w g _ _ _ d hp hv h3 (by cases d<;>simp_all) h5
theorem zCt {p u:Tmp}(h:fn.results=#[.cell p 35,.tmp u])(tmps:Array Value)(w:World){g:Nat}{c:OC}(hv:jR w g c)(hp:tmps.getD p undef=.pointer (some ⟨g,0,none⟩)):(results fn tmps).run Tryz.prog w=.ok (.tuple #[.agg c.row,tmps.getD u undef]) w:=by
 obtain⟨d,h3,h4,h5⟩:=zK4;rw[results_cell_tmp h,hp];simp only[asAddr,Sem.run_pure,Result.andThen_ok,run_loadVar_row w g _ _ _ _ d hv h3 (by cases d<;>simp_all) h5]
def zNc (w:World)(o:OpP)(e:Ending)(w':World):Prop:=∃c,e=.returned (.agg (OC.row c))/\OkA w' c o/\Below w.heap.size w w'
open Go.ChangeShapes Go.WideShapes Go.RowKit Go.Deep
theorem own :ownKnob Tryz.prog.godebug=none:=Ka
theorem zEn :laidOutB Tryz.prog=true:=Ka
theorem zV6 :Tryz.prog.cellsOf 21=1:=Ka
theorem zN4 :Tryz.prog.cellsOf 4=1:=Ka
theorem zQ2 :Tryz.prog.cellsOf 9=1:=Ka
theorem zN5 :Tryz.prog.cellsOf 103=2:=Ka
theorem zKf :Tryz.prog.cellsOf 26=4:=Ka
theorem zIx :Tryz.prog.cellsOf 22=1:=Ka
theorem zMc :Tryz.prog.cellsOf 23=1:=Ka
theorem zS4 :Tryz.prog.cellsOf 24=1:=Ka
theorem zV7 :Tryz.prog.bytesOf 21=4:=Ka
theorem zV8 :Tryz.prog.bytesOf 103=32:=Ka
theorem zV9 :Tryz.prog.bytesOf 26=80:=Ka
theorem zS5 :Tryz.prog.underlying 103=some (.struct (Tryz.prog.fieldsOf 103)):=Ka
theorem zIy :Tryz.prog.underlying 26=some (.struct (Tryz.prog.fieldsOf 26)):=Ka
theorem kJ2 :((Tryz.prog.fieldsOf 103)[0]?).map (fun f=>(f.type,f.offset))=some (9,0):=Ka
theorem kJ3 :((Tryz.prog.fieldsOf 103)[1]?).map (fun f=>(f.type,f.offset))=some (9,1):=Ka
theorem kJ4 :((Tryz.prog.fieldsOf 26)[0]?).map (fun f=>(f.type,f.offset))=some (4,0):=Ka
theorem kJ5 :((Tryz.prog.fieldsOf 26)[1]?).map (fun f=>(f.type,f.offset))=some (22,1):=Ka
theorem kJ6 :((Tryz.prog.fieldsOf 26)[2]?).map (fun f=>(f.type,f.offset))=some (23,2):=Ka
theorem kJ7 :((Tryz.prog.fieldsOf 26)[3]?).map (fun f=>(f.type,f.offset))=some (24,3):=Ka
theorem zY7 :(Tryz.prog.fieldsOf 103).size=2:=Ka
theorem zY8 :(Tryz.prog.fieldsOf 26).size=4:=Ka
theorem zWa :(Tryz.prog.fieldsOf 26).toList.map (·.type)=[4,22,23,24]:=Ka
theorem zMd {w:World}{a:Addr}{v:Value}(h:w.cell? a=some v):a.block<w.heap.size/\a.spot=none:=by
 unfold World.cell? at h;cases hb:w.heap[a.block]? with
 |none=>rw[hb]at h;cases h
 |some o=>
  rw[hb]at h;refine⟨(Array.getElem?_eq_some_iff.1 hb).1,?_⟩;cases o<;>simp at h
  exact h.1
section
variable {H:Type}
theorem kCs (d:DataW H):1<=Rows.uptoBulk d:=by
 cases d with
 |lit l=>cases l<;>simp[Rows.uptoBulk]
 |nil=>simp[Rows.uptoBulk]
 |ptr d=>simp[Rows.uptoBulk]
 |slice elems spare=>simp[Rows.uptoBulk]
 |agg parts=>simp[Rows.uptoBulk]
 |iface t d=>simp[Rows.uptoBulk]
 |map entries=>simp[Rows.uptoBulk]
 |held h=>simp[Rows.uptoBulk]
theorem zS6 (l:List (DataW H)):l.length<=Rows.uptoBulkAll l:=by
 induction l with
 |nil=>simp[Rows.uptoBulkAll]
 |cons x r ih=>have:=kCs x;simp only[Rows.uptoBulkAll,List.length_cons];omega
theorem zQ3 (q:Nat->NT):∀(l:List (DataW H))(s:Nat),(∀i d,l[i]? =some d->sizeT (q (s+i))<=Rows.uptoBulk d)->sizeK ((List.range' s l.length).map q)<=Rows.uptoBulkAll l
 |[],s,_=>by simp[sizeK]
 |d::r,s,h=>by
  have h0:=h 0 d rfl;have h1:=zQ3 q r (s+1) (fun i d hd=>by have:=h (i+1) d hd;rwa[show s+(i+1)=s+1+i by omega]at this);simp only[List.length_cons,List.range'_succ,List.map_cons,sizeK,Rows.uptoBulkAll];have h0':sizeT (q s)<=Rows.uptoBulk d:=h0;omega
theorem zMe {P:Program}{e:TypeId}:∀{l:List (DataW H)}{d:DataW H},d ∈ l->∀n ∈ d.weights P e,n ∈ DataW.weightsAll P e l
 |[],_,h,_,_=>by cases h
 |x::r,d,h,n,hn=>by
  simp only[DataW.weightsAll,List.mem_append];rcases List.mem_cons.1 h with rfl|h
  ·exact .inl hn
  ·exact .inr (zMe h n hn)
end
section
variable {H:Type}{enc:TypeId×Value->H}{W:World}{base:Nat}{sp:Nat->Bool}{held:Bool}
theorem zN6 {fuel:Nat}{cs:List Value}{x:DataW H×List MemPlace}(h:DataW.trod enc Tryz.prog W base sp held fuel 23 cs=some x)(hw:∀n ∈ x.1.weights Tryz.prog 23,n<=reachBytes):
  ∃(A:Option Addr)(l:List Int)(c:Nat),cs=[.slice A l.length c]/\l.length<=35184372088832/\l.length<=c/\VL W W.heap.size A (rv l)/\l.length+1<=Rows.uptoBulk x.1:=by
 rcases open_ints Tryz.underlying23 Tryz.underlying21 zV6 h with⟨hcs,rfl⟩|⟨a,len,cap,zs,hcs,_,hl,hm,hz,rfl,hc,_⟩
 ·exact⟨none,[],0,hcs,by decide,Nat.le_refl _,VL.nil _ _ _,by simp[Rows.uptoBulk]⟩
 ·have hzl:len<=zs.length:=by rw[hz];split<;>omega
  have hlen:(zs.take len).length=len:=by simp;omega
  have hb:=hw ((lits .i32 (zs.take len) (H:=H)).length*4+(lits .i32 (zs.drop len) (H:=H)).length*4) (by simp[DataW.weights,Tryz.underlying23,zV7,Nat.add_mul]);have bl:(lits (H:=H) .i32 (zs.take len)).length=len:=by simp[lits];omega
  refine⟨some a,zs.take len,cap,by rw[hlen];exact hcs,by rw[hlen];rw[bl]at hb;unfold reachBytes at hb;omega,by rw[hlen];exact hl,fun hn=>?_,?_⟩
  ·have h0:0<len:=by
    rcases Nat.eq_zero_or_pos len with h|h
    ·subst h;simp[rv]at hn
    ·exact h
   have hs:=zMd (hc 0 Kb);simp only[Addr.add,if_true]at hs;obtain⟨b,o,s⟩:=a;obtain rfl:s=none:=hs.2;refine⟨b,o,rfl,hs.1,fun k u hk=>?_⟩;have hkl:k<len:=by have:=(List.getElem?_eq_some_iff.1 hk).1;rw[zCg,hlen]at this;exact this
   have h1:=hc k Kb;rw[add_plain]at h1;rw[h1,<-hk,kJt _ k Kb,zNy _ k Kb];simp[List.getD,show k<zs.length by omega]
  ·rw[hlen];have:=zS6 (lits (H:=H) .i32 (zs.take len));rw[bl]at this;simp only[Rows.uptoBulk];omega
theorem zKg {fuel:Nat}{cs:List Value}{x:DataW H×List MemPlace}(h:DataW.trod enc Tryz.prog W base sp held fuel 22 cs=some x)(hw:∀n ∈ x.1.weights Tryz.prog 22,n<=reachBytes):
  ∃(A:Option Addr)(l:List Pr)(c:Nat),cs=[.slice A l.length c]/\zIo l/\l.length<=4398046511104/\l.length<=c/\PL W W.heap.size A l:=by
 rcases DataW.trod_slice Tryz.underlying22 h with⟨hcs,_⟩|⟨a,len,cap,elems,rest,n,_,hcs,rfl,_,hl,hm,hlen,hel,_,_⟩
 ·exact⟨none,[],0,hcs,⟨by decide,by simp⟩,by decide,Nat.le_refl _,PL.nil _ _ _⟩
 ·have key:∀i,i<len->∃q:Pr,q.1.size<=maxLen/\q.2.size<=maxLen/\W.cell? (a.add (i*2))=some (.string q.1)/\W.cell? (a.add (i*2+1))=some (.string q.2):=by
   intro i him;have h1:=hel i him;rw[zN5,List.getElem?_eq_getElem Kb]at h1;obtain⟨cs',hc,ht⟩:=Option.bind_eq_some_iff.1 h1;obtain⟨ys,m,_,_,hcl,Al,hf⟩:=DataW.trod_struct zS5 ht;rw[zN5]at hcl;rw[zY7]at Al;obtain⟨_,_,hat⟩:=World.cells?_some hc;obtain⟨f0,e0,g0⟩:=Option.map_eq_some_iff.1 kJ2;obtain⟨f1,e1,g1⟩:=Option.map_eq_some_iff.1 kJ3;have r0:=hf 0 f0 e0;have r1:=hf 1 f1 e1;simp only[Prod.mk.injEq]at g0 g1;rw[g0.1,g0.2,zQ2]at r0;rw[g1.1,g1.2,zQ2]at r1;match cs',hcl,ys,Al with
   |[c0,c1],_,[y0,y1],_=>
    simp only[List.drop_zero,List.take_succ_cons,List.take_zero,List.drop_succ_cons,List.getElem?_cons_zero,List.getElem?_cons_succ]at r0 r1;have a0:=hat (i:=0) Kb;have a1:=hat (i:=1) Kb;rw[add_add]at a0 a1;simp only[List.getElem?_cons_zero,List.getElem?_cons_succ,Nat.add_zero]at a0 a1;obtain⟨s0,Am,_,w0⟩:=DataW.trod_string Tryz.underlying9 r0;obtain⟨s1,Ar,_,w1⟩:=DataW.trod_string Tryz.underlying9 r1;simp only[List.cons.injEq,and_true]at Am Ar;subst Am Ar;exact⟨(s0,s1),w0,w1,a0,a1⟩
  obtain⟨q,hq⟩:=choose_lt key;have bL:((List.range len).map q).length=len:=by simp
  have hget:∀k,k<len->jU ((List.range len).map q) k=q k:=fun k hk=>by
   rw[zB7 _ k (by simpa using hk)];simp
  have hb:=hw (elems.length*32+rest.length*32) (by simp[DataW.weights,Tryz.underlying22,zV8,Nat.add_mul]);refine⟨some a,(List.range len).map q,cap,by rw[bL];exact hcs,⟨by rw[bL];unfold maxLen at hm;omega,fun p hp=>?_⟩,by rw[bL];unfold reachBytes at hb;omega,by rw[bL];exact hl,fun hn=>?_⟩
  ·obtain⟨k,hk,rfl⟩:=List.mem_map.1 hp;have:=hq k (List.mem_range.1 hk);unfold maxLen at this;omega
  ·have h0:0<len:=by
    rcases Nat.eq_zero_or_pos len with h|h
    ·subst h;exact absurd rfl hn
    ·exact h
   have hs:=zMd (hq 0 h0).2.2.1;simp only[Nat.zero_mul,Addr.add,if_true]at hs;obtain⟨b,o,s⟩:=a;obtain rfl:s=none:=hs.2;refine⟨b,o,rfl,hs.1,fun k hk=>?_⟩;rw[bL]at hk;rw[hget k hk];have h1:=(hq k hk).2.2.1;have h2:=(hq k hk).2.2.2;rw[add_plain]at h1 h2;exact⟨h1,h2⟩
theorem zV.deeper {w:World}{B:Nat}:∀{d:Nat}{v:Value}{n:NT},zV d w B v n->zV (d+1) w B v n
 |0,_,_,h=>h.elim
 |d+1,_,_,⟨PA,pc,TA,tc,KA,kc,e,hp,ht,hf,hks⟩=>⟨PA,pc,TA,tc,KA,kc,e,hp,ht,hf,fun k m hm=>by
   obtain⟨b,o,u,e1,hb,hn,hc⟩:=hks k m hm;exact⟨b,o,u,e1,hb,hn.deeper,hc⟩⟩
instance : Inhabited NT:=⟨.mk false [] [] []⟩
theorem zQ4 :∀(fuel:Nat)(cs:List Value)(x:DataW H×List MemPlace),DataW.trod enc Tryz.prog W base sp held fuel 26 cs=some x->(∀n ∈ x.1.weights Tryz.prog 26,n<=reachBytes)->
  ∃c0 c1 c2 c3 n,cs=[c0,c1,c2,c3]/\zV fuel W W.heap.size (.agg #[c0,c1,c2,c3]) n/\sizeT n<=Rows.uptoBulk x.1/\zRi n:=by
 intro fuel;induction fuel using Nat.strongRecOn with
 | ind fuel ih=>
  intro cs x h hw;obtain⟨xs,f1,rfl,rfl,hcl,hxl,hf⟩:=DataW.trod_struct zIy h;rw[zKf]at hcl;rw[zY8]at hxl;obtain⟨t0,e0,g0⟩:=Option.map_eq_some_iff.1 kJ4;obtain⟨t1,e1,g1⟩:=Option.map_eq_some_iff.1 kJ5;obtain⟨t2,e2,g2⟩:=Option.map_eq_some_iff.1 kJ6;obtain⟨t3,e3,g3⟩:=Option.map_eq_some_iff.1 kJ7;simp only[Prod.mk.injEq]at g0 g1 g2 g3;have r0:=hf 0 t0 e0;have r1:=hf 1 t1 e1;have r2:=hf 2 t2 e2;have r3:=hf 3 t3 e3;rw[g0.1,g0.2,zN4]at r0;rw[g1.1,g1.2,zIx]at r1;rw[g2.1,g2.2,zMc]at r2;rw[g3.1,g3.2,zS4]at r3;match cs,hcl,xs,hxl with
  | [c0,c1,c2,c3],_,[x0,x1,x2,x3],_=>
   simp only[List.drop_zero,List.take_succ_cons,List.take_zero,List.drop_succ_cons,List.getElem?_cons_zero,List.getElem?_cons_succ]at r0 r1 r2 r3;have oF:∀n ∈ DataW.weightsEach Tryz.prog [4,22,23,24] [x0.1,x1.1,x2.1,x3.1],n<=reachBytes:=fun n hn=>hw n (by
    simp only[DataW.weights,zIy,zWa,List.map_cons,List.map_nil];exact hn)
   obtain⟨lf,k0,_⟩:=DataW.trod_bool Tryz.underlying4 r0;obtain⟨PA,ps,pc,k1,Cy,hpl,hpc,hP⟩:=zKg r1 (fun n hn=>oF n (DataW.weights_mem_each (j:=1) rfl rfl n hn));obtain⟨TA,tx,tc,k2,htl,Cz,hT,EP⟩:=zN6 r2 (fun n hn=>oF n (DataW.weights_mem_each (j:=2) rfl rfl n hn));simp only[List.cons.injEq,and_true]at k0 k1 k2;subst k0 k1 k2;have hwk:=fun n hn=>oF n (DataW.weights_mem_each (j:=3) rfl rfl n hn);have hk:∃(KA:Option Addr)(ks:List NT)(kc:Nat),c3=.slice KA ks.length kc/\ks.length<=1759218604390/\zKn f1 W W.heap.size KA ks/\sizeK ks+1<=Rows.uptoBulk x3.1/\ks.length<=kc/\zU1 ks:=by
    rcases DataW.trod_slice Tryz.underlying24 r3 with⟨hcs,rfl⟩|⟨a,len,cap,elems,rest,f2,rfl,hcs,rfl,_,hl,hm,hlen,hel,_,_⟩
    ·simp only[List.cons.injEq,and_true]at hcs;exact⟨none,[],0,hcs,by decide,fun k m hm=>by simp at hm,by simp[sizeK,Rows.uptoBulk],Nat.le_refl _,trivial⟩
    ·have key:∀i,i<len->∃m:NT,(∃u,zV f2 W W.heap.size u m/\∃c0 c1 c2 c3,u=.agg #[c0,c1,c2,c3]/\W.cell? (a.add (i*4))=some c0/\W.cell? (a.add (i*4+1))=some c1/\W.cell? (a.add (i*4+2))=some c2/\W.cell? (a.add (i*4+3))=some c3)/\(∀d,(elems.map (·.1))[i]? =some d->sizeT m<=Rows.uptoBulk d)/\zRi m:=by
      intro i him;have h1:=hel i him;have qd:i<elems.length:=Kb;rw[zKf,List.getElem?_eq_getElem qd]at h1;obtain⟨cs',hc,ht⟩:=Option.bind_eq_some_iff.1 h1;obtain⟨b0,b1,b2,b3,m,rfl,hn,hs,C0⟩:=ih f2 Kb cs' _ ht (fun n hn=>hwk n (by
       simp only[DataW.weights,Tryz.underlying24,List.mem_cons,List.mem_append];exact .inr (.inl (zMe (List.mem_map.2 ⟨_,List.getElem_mem qd,rfl⟩) n hn))))
      obtain⟨_,_,hat⟩:=World.cells?_some hc;have a0:=hat (i:=0) Kb;have a1:=hat (i:=1) Kb;have a2:=hat (i:=2) Kb;have a3:=hat (i:=3) Kb;rw[add_add]at a0 a1 a2 a3;simp only[List.getElem?_cons_zero,List.getElem?_cons_succ,Nat.add_zero]at a0 a1 a2 a3;refine⟨m,⟨_,hn,b0,b1,b2,b3,rfl,a0,a1,a2,a3⟩,fun d hd=>?_,C0⟩;rw[List.getElem?_map,List.getElem?_eq_getElem qd]at hd;simp only[Option.map_some,Option.some.injEq]at hd;rw[<-hd];exact hs
     obtain⟨q,hq⟩:=choose_lt key;have bL:((List.range len).map q).length=len:=by simp
     have hb:=hwk (elems.length*80+rest.length*80) (by simp[DataW.weights,Tryz.underlying24,zV9,Nat.add_mul]);refine⟨some a,(List.range len).map q,cap,by rw[bL];simpa using hcs,by rw[bL];unfold reachBytes at hb;omega,fun k m hm=>?_,?_,by rw[bL];exact hl,zRj fun k m hm=>?_⟩
     ·have hkl:k<len:=by have:=(List.getElem?_eq_some_iff.1 hm).1;rwa[bL]at this
      rw[List.getElem?_map,List.getElem?_range hkl]at hm;simp only[Option.map_some,Option.some.injEq]at hm;subst hm;obtain⟨⟨u,hn,d0,d1,d2,d3,eu,a0,a1,a2,a3⟩,_,_⟩:=hq k hkl;obtain⟨⟨_,_,_,_,_,_,_,z0,_⟩,_,_⟩:=hq 0 Kb;have hab:=zMd z0;simp only[Nat.zero_mul,Addr.add,if_true]at hab;obtain⟨b,o,s⟩:=a;obtain rfl:s=none:=hab.2;rw[add_plain]at a0 a1 a2 a3;exact⟨b,o,u,rfl,hab.1,hn.deeper,d0,d1,d2,d3,eu,a0,a1,a2,a3⟩
     ·have hbk:=zQ3 q (elems.map (·.1)) 0 (fun i d hd=>by
       have hil:i<len:=by have:=(List.getElem?_eq_some_iff.1 hd).1;simp at this;omega
       rw[Nat.zero_add];exact(hq i hil).2.1 d hd)
      rw[List.length_map,hlen,<-List.range_eq_range']at hbk;simp only[Rows.uptoBulk];omega
     ·have hkl:k<len:=by have:=(List.getElem?_eq_some_iff.1 hm).1;rwa[bL]at this
      rw[List.getElem?_map,List.getElem?_range hkl]at hm;simp only[Option.map_some,Option.some.injEq]at hm;subst hm;exact(hq k hkl).2.2
   obtain⟨KA,ks,kc,rfl,hkl,hK,EQ,hkc,htk⟩:=hk;refine⟨_,_,_,_,.mk lf ps tx ks,rfl,zV.shut rfl rfl rfl hP hT ⟨Cy,hpl,htl,by omega,hpc,Cz,hkc⟩ hK,?_,⟨hkl,htk⟩⟩;simp only[sizeT,Rows.uptoBulk,Rows.uptoBulkAll,List.map_cons,List.map_nil];omega
theorem zJi {b0:Nat}{v:Value}{d:DataW H}(hv:Value.okWide Tryz.prog W r b0 26 v)(h:DataW.Trod enc Tryz.prog W base sp held 26 v d p)(hw:∀n ∈ d.weights Tryz.prog 26,n<=reachBytes):
  ∃f n,zV f W W.heap.size v n/\sizeT n<=Rows.uptoBulk d/\zRi n:=by
 obtain⟨fuel,hf⟩:=h;obtain⟨c0,c1,c2,c3,n,hcs,hn,hs,ht⟩:=zQ4 fuel _ _ hf hw;obtain⟨cs,rfl,hcz⟩:=okWide_struct zIy hv;have e:cs=#[c0,c1,c2,c3]:=by
  apply Array.toList_inj.1;simpa[Value.cells]using hcs
 subst e;exact⟨fuel,n,hn,hs,ht⟩
end
theorem zHm :Tryz.prog.cellsOf 3=1:=Ka
theorem zY9 {w:World}{a:Addr}{v:Value}(h:w.cell? a=some v):a.block<w.heap.size/\a.spot=none:=by
 unfold World.cell? at h;cases hb:w.heap[a.block]? with
 |none=>rw[hb]at h;cases h
 |some o=>
  rw[hb]at h;refine⟨(Array.getElem?_eq_some_iff.1 hb).1,?_⟩;cases o<;>simp at h
  exact h.1
def kM4 (l:List Int):Prop:=∀k,k<l.length-> -9223372036854775808<=iAt l k/\iAt l k<=9223372036854775807
theorem kG0 (h:∀n ∈ l,(Lit.int .i64 n).wf=true):kM4 l:=by
 intro k hk;have:=h (iAt l k) (by rw[jY l k hk];exact List.getElem_mem hk);have e1:IntKind.i64.min= -9223372036854775808:=by decide
 have e2:IntKind.i64.max=9223372036854775807:=by decide
 simp[Lit.wf,e1,e2]at this;omega
theorem kT7 {H:Type}{enc:TypeId×Value->H}{W:World}{b0 base:Nat}{held:Bool}{v:Value}{d:DataW H}(hv:Value.okWide Tryz.prog W r b0 27 v)
  (h:DataW.Trod enc Tryz.prog W base (fun _=>true) held 27 v d p):∃(A:Option Addr)(l:List Int)(c:Nat),v=.slice A l.length c/\l.length<=9223372036854775807/\l.length<=c/\kM4 l/\IL W W.heap.size A l:=by
 obtain⟨a0,lA,xb,rfl⟩:=okWide_slice Tryz.underlying27 hv;obtain⟨fuel,hf⟩:=h;rcases open_ints Tryz.underlying27 Tryz.underlying3 zHm hf with⟨hcs,_⟩|⟨a,len,cap,zs,hcs,_,hl,hm,hz,_,hc,hw⟩
 ·simp[Value.cells]at hcs;obtain⟨rfl,rfl,rfl⟩:=hcs;exact⟨none,[],0,rfl,by decide,Nat.le_refl _,fun k hk=>absurd hk (Nat.not_lt_zero _),IL.nil _ _ _⟩
 ·simp[Value.cells]at hcs;obtain⟨rfl,rfl,rfl⟩:=hcs;simp only[if_true]at hz;have hlen:(zs.take lA).length=lA:=by simp;omega
  refine⟨some a,zs.take lA,xb,by rw[hlen],by rw[hlen];unfold maxLen at hm;omega,by rw[hlen];exact hl,kG0 fun n hn=>hw n (List.mem_of_mem_take hn),fun hn=>?_⟩;have h0:0<lA:=by
   rcases Nat.eq_zero_or_pos lA with h|h
   ·subst h;simp at hn
   ·exact h
  have hs:=zY9 (hc 0 Kb);simp only[Addr.add,if_true]at hs;obtain⟨b,o,s⟩:=a;obtain rfl:s=none:=hs.2;refine⟨b,o,rfl,hs.1,fun k hk=>?_⟩;rw[hlen]at hk;have h1:=hc k Kb;rw[add_plain]at h1;rw[h1,jY _ k Kb];simp[List.getD,show k<zs.length by omega]
theorem zZa :Tryz.prog.underlying 29=some (.struct (Tryz.prog.fieldsOf 29)):=Ka
theorem kM5 :((Tryz.prog.fieldsOf 29)[0]?).map (fun f=>(f.type,f.offset))=some (27,0):=Ka
theorem kM6 :((Tryz.prog.fieldsOf 29)[1]?).map (fun f=>(f.type,f.offset))=some (3,1):=Ka
theorem kG1 :(Tryz.prog.fieldsOf 29).size=2:=Ka
theorem zO2 :Tryz.prog.cellsOf 29=2:=Ka
theorem zKh :Tryz.prog.cellsOf 27=1:=Ka
theorem zQ5 :Tryz.prog.underlying 31=some (.struct (Tryz.prog.fieldsOf 31)):=Ka
theorem kG2 :((Tryz.prog.fieldsOf 31)[0]?).map (fun f=>(f.type,f.offset))=some (29,0):=Ka
theorem kG3 :((Tryz.prog.fieldsOf 31)[1]?).map (fun f=>(f.type,f.offset))=some (29,2):=Ka
theorem zWb :(Tryz.prog.fieldsOf 31).size=2:=Ka
theorem zMf :Tryz.prog.cellsOf 31=4:=Ka
theorem zN7 :Tryz.prog.underlying 33=some (.struct (Tryz.prog.fieldsOf 33)):=Ka
theorem kLz :((Tryz.prog.fieldsOf 33)[0]?).map (fun f=>(f.type,f.offset))=some (4,0):=Ka
theorem kL0 :((Tryz.prog.fieldsOf 33)[1]?).map (fun f=>(f.type,f.offset))=some (31,1):=Ka
theorem kCt :(Tryz.prog.fieldsOf 33).size=2:=Ka
theorem zMg :Tryz.prog.cellsOf 33=5:=Ka
section
variable {H:Type}{enc:TypeId×Value->H}{W:World}{base:Nat}{held:Bool}
theorem zWc {fuel:Nat}{cs:List Value}{x:DataW H×List MemPlace}(h:DataW.trod enc Tryz.prog W base (fun _=>true) held fuel 27 cs=some x):
  ∃(A:Option Addr)(l:List Int)(c:Nat),cs=[.slice A l.length c]/\l.length<=9223372036854775807/\l.length<=c/\IL W W.heap.size A l:=by
 rcases open_ints Tryz.underlying27 Tryz.underlying3 zHm h with⟨hcs,_⟩|⟨a,len,cap,zs,hcs,_,hl,hm,hz,_,hc,hw⟩
 ·exact⟨none,[],0,hcs,by decide,Nat.le_refl _,IL.nil _ _ _⟩
 ·simp only[if_true]at hz;have hlen:(zs.take len).length=len:=by simp;omega
  refine⟨some a,zs.take len,cap,by rw[hlen];exact hcs,by rw[hlen];unfold maxLen at hm;omega,by rw[hlen];exact hl,fun hn=>?_⟩;have h0:0<len:=by
   rcases Nat.eq_zero_or_pos len with h|h
   ·subst h;simp at hn
   ·exact h
  have hs:=zY9 (hc 0 Kb);simp only[Addr.add,if_true]at hs;obtain⟨b,o,s⟩:=a;obtain rfl:s=none:=hs.2;refine⟨b,o,rfl,hs.1,fun k hk=>?_⟩;rw[hlen]at hk;have h1:=hc k Kb;rw[add_plain]at h1;rw[h1,jY _ k Kb];simp[List.getD,show k<zs.length by omega]
def zMh (W:World)(c0 c1:Value)(p:List Int×Int):Prop:=∃A c,c0=.slice A p.1.length c/\c1=.int .i64 p.2/\p.1.length<=9223372036854775807/\p.1.length<=c/\IL W W.heap.size A p.1
theorem zUo {fuel:Nat}{cs:List Value}{x:DataW H×List MemPlace}(h:DataW.trod enc Tryz.prog W base (fun _=>true) held fuel 29 cs=some x):∃c0 c1 p,cs=[c0,c1]/\zMh W c0 c1 p:=by
 obtain⟨xs,f1,rfl,rfl,hcl,hxl,hf⟩:=DataW.trod_struct zZa h;rw[zO2]at hcl;rw[kG1]at hxl;obtain⟨t0,e0,g0⟩:=Option.map_eq_some_iff.1 kM5;obtain⟨t1,e1,g1⟩:=Option.map_eq_some_iff.1 kM6;simp only[Prod.mk.injEq]at g0 g1;have r0:=hf 0 t0 e0;have r1:=hf 1 t1 e1;rw[g0.1,g0.2,zKh]at r0;rw[g1.1,g1.2,zHm]at r1;match cs,hcl,xs,hxl with
 |[c0,c1],_,[x0,x1],_=>
  simp only[List.drop_zero,List.take_succ_cons,List.take_zero,List.drop_succ_cons,List.getElem?_cons_zero,List.getElem?_cons_succ]at r0 r1;obtain⟨A,l,c,k0,h1,h2,h3⟩:=zWc r0;obtain⟨n,k1,_,_⟩:=DataW.trod_int Tryz.underlying3 r1;simp only[List.cons.injEq,and_true]at k0 k1;exact⟨c0,c1,(l,n),rfl,A,c,k0,k1,h1,h2,h3⟩
end
section
variable {H:Type}{enc:TypeId×Value->H}{W:World}{base:Nat}{held:Bool}
theorem zS7 {fuel:Nat}{cs:List Value}{x:DataW H×List MemPlace}(h:DataW.trod enc Tryz.prog W base (fun _=>true) held fuel 31 cs=some x):∃c0 c1 c2 c3 p q,cs=[c0,c1,c2,c3]/\zMh W c0 c1 p/\zMh W c2 c3 q:=by
 obtain⟨xs,f1,rfl,rfl,hcl,hxl,hf⟩:=DataW.trod_struct zQ5 h;rw[zMf]at hcl;rw[zWb]at hxl;obtain⟨t0,e0,g0⟩:=Option.map_eq_some_iff.1 kG2;obtain⟨t1,e1,g1⟩:=Option.map_eq_some_iff.1 kG3;simp only[Prod.mk.injEq]at g0 g1;have r0:=hf 0 t0 e0;have r1:=hf 1 t1 e1;rw[g0.1,g0.2,zO2]at r0;rw[g1.1,g1.2,zO2]at r1;match cs,hcl,xs,hxl with
 |[c0,c1,c2,c3],_,[x0,x1],_=>
  simp only[List.drop_zero,List.take_succ_cons,List.take_zero,List.drop_succ_cons,List.getElem?_cons_zero,List.getElem?_cons_succ]at r0 r1;obtain⟨a0,a1,p,k0,h0⟩:=zUo r0;obtain⟨a2,a3,q,k1,h1⟩:=zUo r1;simp only[List.cons.injEq,and_true]at k0 k1;obtain⟨rfl,rfl⟩:=k0;obtain⟨rfl,rfl⟩:=k1;exact⟨_,_,_,_,p,q,rfl,h0,h1⟩
theorem zMi {fuel:Nat}{cs:List Value}{x:DataW H×List MemPlace}(h:DataW.trod enc Tryz.prog W base (fun _=>true) held fuel 33 cs=some x):∃is c0 c1 c2 c3 p q,cs=[.bool is,c0,c1,c2,c3]/\zMh W c0 c1 p/\zMh W c2 c3 q:=by
 obtain⟨xs,f1,rfl,rfl,hcl,hxl,hf⟩:=DataW.trod_struct zN7 h;rw[zMg]at hcl;rw[kCt]at hxl;obtain⟨t0,e0,g0⟩:=Option.map_eq_some_iff.1 kLz;obtain⟨t1,e1,g1⟩:=Option.map_eq_some_iff.1 kL0;simp only[Prod.mk.injEq]at g0 g1;have r0:=hf 0 t0 e0;have r1:=hf 1 t1 e1;rw[g0.1,g0.2,zN4]at r0;rw[g1.1,g1.2,zMf]at r1;match cs,hcl,xs,hxl with
 |[c0,c1,c2,c3,c4],_,[x0,x1],_=>
  simp only[List.drop_zero,List.take_succ_cons,List.take_zero,List.drop_succ_cons,List.getElem?_cons_zero,List.getElem?_cons_succ]at r0 r1;obtain⟨is,k0,_⟩:=DataW.trod_bool Tryz.underlying4 r0;obtain⟨a0,a1,a2,a3,p,q,k1,h0,h1⟩:=zS7 r1;simp only[List.cons.injEq,and_true]at k0 k1;obtain rfl:=k0;obtain⟨rfl,rfl,rfl,rfl⟩:=k1;exact⟨is,_,_,_,_,p,q,rfl,h0,h1⟩
end
