/- Operations in memory: where their parts lie, what their cells hold; loads and stores of whole ones. -/
import Derived.Test.YtdjajpookmmafaaBText
import Derived.Test.YtdjajpookmmafaaXMoves
import Derived.Test.YtdjajpookmmafaaXLoad
import Derived.Test.YtdjajpookmmafaaYNs
import Derived.Test.YtdjajpookmmafaaYNs
import Derived.Test.YtdjajpookmmafaaNRSame
import Derived.Test.YtdjajpookmmafaaNLefts
import Derived.Test.YtdjajpookmmafaaNCopy
import Derived.Laws.ResultCell
namespace Go.Proofs.Ytdjajpookmmafaa
open Go.RowKit

/-- Where an operation's parts lie. -/
structure OC where
  k : Int
  Q : Option Addr
  lq : Nat
  cq : Nat
  T : Option Addr
  lt : Nat
  ct : Nat
  z : Int
  lf : Bool
  P : Option Addr
  np : Nat
  pc : Nat
  X : Option Addr
  nt : Nat
  tc : Nat
  K : Option Addr
  nk : Nat
  kc : Nat
  O : Option Addr
  no : Nat
  co : Nat
  W : Option Addr
  nw : Nat
  cw : Nat
  S : Option Addr
  nx : Nat
  cx : Nat
  fi : Bool
  F1 : Option Addr
  f1 : Nat
  d1 : Nat
  fo : Int
  F2 : Option Addr
  f2 : Nat
  d2 : Nat
  fp : Int
  gi : Bool
  G1 : Option Addr
  g1 : Nat
  e1 : Nat
  go : Int
  G2 : Option Addr
  g2 : Nat
  e2 : Nat
  gp : Int
def OC.row (c : OC) : Array Value := #[.int .i64 c.k, .slice c.Q c.lq c.cq, .slice c.T c.lt c.ct, .int .i64 c.z, .bool c.lf, .slice c.P c.np c.pc, .slice c.X c.nt c.tc, .slice c.K c.nk c.kc, .slice c.O c.no c.co, .slice c.W c.nw c.cw, .slice c.S c.nx c.cx,
  .bool c.fi, .slice c.F1 c.f1 c.d1, .int .i64 c.fo, .slice c.F2 c.f2 c.d2, .int .i64 c.fp, .bool c.gi, .slice c.G1 c.g1 c.e1, .int .i64 c.go, .slice c.G2 c.g2 c.e2, .int .i64 c.gp]
def OC.zero : OC := ⟨0, none, 0, 0, none, 0, 0, 0, false, none, 0, 0, none, 0, 0, none, 0, 0, none, 0, 0, none, 0, 0, none, 0, 0, false, none, 0, 0, 0, none, 0, 0, 0, false, none, 0, 0, 0, none, 0, 0, 0⟩
set_option maxRecDepth 4000 in
theorem OC.size (c : OC) : c.row.size = 21 := rfl
set_option maxRecDepth 4000 in
theorem OC.one (c : OC) : c.row.all (·.oneCell') = true := by kernel_rfl
/-- A node's value, and a selection's, out of an operation. -/
def OC.node (c : OC) : Value := .agg #[.bool c.lf, .slice c.P c.np c.pc, .slice c.X c.nt c.tc, .slice c.K c.nk c.kc]

/-- A selection's cells. -/
structure SelA (w : World) (is : Bool) (A : Option Addr) (n c : Nat) (x : Int) (B : Option Addr) (m d : Nat) (y : Int) (s : Sl) : Prop where
  his : s.is = is
  hx : s.a.2 = x
  hy : s.f.2 = y
  hn : s.a.1.length = n
  hm : s.f.1.length = m
  hc : n ≤ c
  hd : m ≤ d
  hmn : n ≤ 9223372036854775807
  hmm : m ≤ 9223372036854775807
  hA : IL w w.heap.size A s.a.1
  hB : IL w w.heap.size B s.f.1
set_option maxRecDepth 4000 in
theorem SelA.later {w w' : World} {is : Bool} {A : Option Addr} {n c : Nat} {x : Int} {B : Option Addr} {m d : Nat} {y : Int} {s : Sl} (h : SelA w is A n c x B m d y s) (hb : Below w.heap.size w w') : SelA w' is A n c x B m d y s :=
  ⟨h.his, h.hx, h.hy, h.hn, h.hm, h.hc, h.hd, h.hmn, h.hmm, h.hA.later hb, h.hB.later hb⟩
set_option maxRecDepth 4000 in
theorem SelA.zero (w : World) : SelA w false none 0 0 0 none 0 0 0 zeroS := ⟨rfl, rfl, rfl, rfl, rfl, by omega, by omega, by omega, by omega, IL.nil _ _ _, IL.nil _ _ _⟩
set_option maxRecDepth 4000 in
theorem SelA.two {w : World} {is : Bool} {A : Option Addr} {n c : Nat} {x : Int} {B : Option Addr} {m d : Nat} {y : Int} {s : Sl} (h : SelA w is A n c x B m d y s) (h1 : n ≤ 10000000) (h2 : m ≤ 10000000) :
    PtAt w (.agg #[.slice A n c, .int .i64 x]) s.a ∧ PtAt w (.agg #[.slice B m d, .int .i64 y]) s.f :=
  ⟨⟨A, n, c, by rw [h.hx], h.hn, h1, h.hc, h.hA⟩, ⟨B, m, d, by rw [h.hy], h.hm, h2, h.hd, h.hB⟩⟩
def InI (l : List Int) : Prop := ∀ k, k < l.length → iAt l k ≤ 9223372036854775807 ∧ -9223372036854775808 ≤ iAt l k
set_option maxRecDepth 4000 in
theorem InI.nil : InI [] := fun _ h => absurd h (Nat.not_lt_zero _)

/-- c holds the operation o. -/
structure OkA (w : World) (c : OC) (o : OpP) : Prop where
  hk : o.k = c.k
  hik : In64 o.k
  hz : o.z = c.z
  hlq : o.q.length = c.lq
  hcq : c.lq ≤ c.cq
  hmq : c.lq ≤ 9223372036854775807
  hq : IL w w.heap.size c.Q o.q
  hiq : InI o.q
  hlt : o.t.length = c.lt
  hct : c.lt ≤ c.ct
  hmt : c.lt ≤ 9223372036854775807
  ht : IL w w.heap.size c.T o.t
  hit : InI o.t
  hn : ∃ d, NodeAt d w w.heap.size c.node o.n
  hno : o.o.length = c.no
  hco : c.no ≤ c.co
  hmo : c.no ≤ 4398046511104
  hwo : Wide o.o
  ho : PL w w.heap.size c.O o.o
  hnw : o.w.length = c.nw
  hcw : c.nw ≤ c.cw
  hmw : c.nw ≤ 4398046511104
  hww : Wide o.w
  hw : PL w w.heap.size c.W o.w
  hnx : o.x.length = c.nx
  hcx : c.nx ≤ c.cx
  hmx : c.nx ≤ 35184372088832
  hx : VL w w.heap.size c.S (rv o.x)
  hf : SelA w c.fi c.F1 c.f1 c.d1 c.fo c.F2 c.f2 c.d2 c.fp o.f
  hg : SelA w c.gi c.G1 c.g1 c.e1 c.go c.G2 c.g2 c.e2 c.gp o.g
set_option maxRecDepth 4000 in
theorem PL.later {w w' : World} {A : Option Addr} {l : List Pr} (h : PL w w.heap.size A l) (hb : Below w.heap.size w w') : PL w' w'.heap.size A l := (h.below hb).more hb.size
set_option maxRecDepth 4000 in
theorem OkA.later {w w' : World} {c : OC} {o : OpP} (h : OkA w c o) (hb : Below w.heap.size w w') : OkA w' c o :=
  { h with hq := h.hq.later hb, ht := h.ht.later hb, hn := (by obtain ⟨d, hn⟩ := h.hn; exact ⟨d, hn.later hb⟩), ho := h.ho.later hb, hw := h.hw.later hb, hx := h.hx.later hb, hf := h.hf.later hb, hg := h.hg.later hb }
set_option maxRecDepth 4000 in
theorem PL.none (w : World) (B : Nat) (A : Option Addr) : PL w B A [] := fun h => absurd rfl h
set_option maxRecDepth 4000 in
theorem Wide.none : Wide [] := ⟨by simp, by simp⟩
set_option maxRecDepth 4000 in
theorem zero_node (w : World) (B : Nat) : NodeAt 1 w B (.agg #[.bool false, .slice none 0 0, .slice none 0 0, .slice none 0 0]) zeroT :=
  NodeAt.shut rfl rfl rfl (PL.none _ _ _) (VL.nil _ _ _) fit_zero (fun k m h => by simp at h)
set_option maxRecDepth 4000 in
theorem OkA.zero (w : World) : OkA w OC.zero zeroO :=
  ⟨rfl, ⟨by decide, by decide⟩, rfl, rfl, by decide, by decide, IL.nil _ _ _, InI.nil, rfl, by decide, by decide, IL.nil _ _ _, InI.nil, ⟨1, zero_node _ _⟩, rfl, by decide, by decide, Wide.none, PL.none _ _ _, rfl, by decide, by decide, Wide.none, PL.none _ _ _, rfl, by decide, by decide, VL.nil _ _ _, SelA.zero _, SelA.zero _⟩

section
variable {w : World} {c : OC} {o : OpP}
set_option maxRecDepth 4000 in
theorem OkA.setK (h : OkA w c o) {k : Int} (hk : In64 k) : OkA w { c with k := k } { o with k := k } := { h with hk := rfl, hik := hk }
set_option maxRecDepth 4000 in
theorem OkA.setZ (h : OkA w c o) (z : Int) : OkA w { c with z := z } { o with z := z } := { h with hz := rfl }
set_option maxRecDepth 4000 in
theorem OkA.setQ (h : OkA w c o) {A : Option Addr} {n d : Nat} {l : List Int} (h1 : l.length = n) (h2 : n ≤ d) (h3 : n ≤ 9223372036854775807) (h4 : IL w w.heap.size A l) (h5 : InI l) : OkA w { c with Q := A, lq := n, cq := d } { o with q := l } := { h with hlq := h1, hcq := h2, hmq := h3, hq := h4, hiq := h5 }
set_option maxRecDepth 4000 in
theorem OkA.setT (h : OkA w c o) {A : Option Addr} {n d : Nat} {l : List Int} (h1 : l.length = n) (h2 : n ≤ d) (h3 : n ≤ 9223372036854775807) (h4 : IL w w.heap.size A l) (h5 : InI l) : OkA w { c with T := A, lt := n, ct := d } { o with t := l } := { h with hlt := h1, hct := h2, hmt := h3, ht := h4, hit := h5 }
set_option maxRecDepth 4000 in
theorem OkA.setN (h : OkA w c o) {d np pc nt tc nk kc : Nat} {lf : Bool} {P X K : Option Addr} {n : NT} (h1 : NodeAt d w w.heap.size (.agg #[.bool lf, .slice P np pc, .slice X nt tc, .slice K nk kc]) n) : OkA w { c with lf := lf, P := P, np := np, pc := pc, X := X, nt := nt, tc := tc, K := K, nk := nk, kc := kc } { o with n := n } := { h with hn := ⟨d, h1⟩ }
set_option maxRecDepth 4000 in
theorem OkA.setO (h : OkA w c o) {A : Option Addr} {n d : Nat} {l : List Pr} (h1 : l.length = n) (h2 : n ≤ d) (h3 : n ≤ 4398046511104) (h4 : PL w w.heap.size A l) (h5 : Wide l) : OkA w { c with O := A, no := n, co := d } { o with o := l } := { h with hno := h1, hco := h2, hmo := h3, ho := h4, hwo := h5 }
set_option maxRecDepth 4000 in
theorem OkA.setW (h : OkA w c o) {A : Option Addr} {n d : Nat} {l : List Pr} (h1 : l.length = n) (h2 : n ≤ d) (h3 : n ≤ 4398046511104) (h4 : PL w w.heap.size A l) (h5 : Wide l) : OkA w { c with W := A, nw := n, cw := d } { o with w := l } := { h with hnw := h1, hcw := h2, hmw := h3, hw := h4, hww := h5 }
set_option maxRecDepth 4000 in
theorem OkA.setX (h : OkA w c o) {A : Option Addr} {n d : Nat} {l : List Int} (h1 : l.length = n) (h2 : n ≤ d) (h3 : n ≤ 35184372088832) (h4 : VL w w.heap.size A (rv l)) : OkA w { c with S := A, nx := n, cx := d } { o with x := l } := { h with hnx := h1, hcx := h2, hmx := h3, hx := h4 }
set_option maxRecDepth 4000 in
theorem OkA.setF (h : OkA w c o) {is : Bool} {A : Option Addr} {n d : Nat} {x : Int} {B : Option Addr} {m e : Nat} {y : Int} {s : Sl} (h1 : SelA w is A n d x B m e y s) : OkA w { c with fi := is, F1 := A, f1 := n, d1 := d, fo := x, F2 := B, f2 := m, d2 := e, fp := y } { o with f := s } := { h with hf := h1 }
set_option maxRecDepth 4000 in
theorem OkA.setG (h : OkA w c o) {is : Bool} {A : Option Addr} {n d : Nat} {x : Int} {B : Option Addr} {m e : Nat} {y : Int} {s : Sl} (h1 : SelA w is A n d x B m e y s) : OkA w { c with gi := is, G1 := A, g1 := n, e1 := d, go := x, G2 := B, g2 := m, e2 := e, gp := y } { o with g := s } := { h with hg := h1 }
end

/-- Few of all: what the document's Few leaves. -/
structure Tiny (o : OpP) : Prop where
  hq : o.q.length ≤ 60
  ht : o.t.length ≤ 60
  hx : o.x.length ≤ 100
  ho : o.o.length ≤ 40
  hw : o.w.length ≤ 40
  hfa : o.f.a.1.length ≤ 60
  hff : o.f.f.1.length ≤ 60
  hga : o.g.a.1.length ≤ 60
  hgf : o.g.f.1.length ≤ 60
set_option maxRecDepth 4000 in
theorem Tiny.zero : Tiny zeroO := ⟨by decide, by decide, by decide, by decide, by decide, by decide, by decide, by decide, by decide⟩

/-- Block g is a variable that holds c. -/
def VarO (w : World) (g : Nat) (c : OC) : Prop := w.heap[g]? = some (.cells c.row 35 (0, 0))
section
variable {w w' : World} {g : Nat} {c c' : OC}
set_option maxRecDepth 4000 in
theorem VarO.keep (h : VarO w g c) (hb : Below w.heap.size w w') : VarO w' g c := xkeep h hb
set_option maxRecDepth 4000 in
theorem VarO.lt (h : VarO w g c) : g < w.heap.size := xlt h
set_option maxRecDepth 4000 in
theorem VarO.new (w : World) (c : OC) : VarO (w.alloc (.cells c.row 35)) w.heap.size c := heap_alloc_new _ _
set_option maxRecDepth 4000 in
theorem VarO.cell (h : VarO w g c) (j : Nat) (v : Value) (hv : c.row[j]? = some v) : w.cell? ⟨g, j, none⟩ = some v := by
  unfold VarO at h
  simp only [World.cell?, h]
  simpa using hv
set_option maxRecDepth 4000 in
theorem VarO.thaw (h : VarO w g c) (j : Nat) : w.frozen? ⟨g, j, none⟩ = false := by
  unfold VarO at h
  simp [World.frozen?, h]
set_option maxRecDepth 4000 in
theorem VarO.set (h : VarO w g c) (j : Nat) (v : Value) (hv : c.row.setIfInBounds j v = c'.row) : VarO (w.setCell ⟨g, j, none⟩ v) g c' := by
  have := set_blk w g _ _ j v h
  rw [hv] at this
  exact this
set_option maxRecDepth 4000 in
theorem VarO.far {g' j : Nat} (h : VarO w g c) (hne : g ≠ g') (v : Value) : VarO (w.setCell ⟨g', j, none⟩ v) g c := blk_far h hne v
set_option maxRecDepth 4000 in
theorem VarO.ck (h : VarO w g c) : w.cell? ⟨g, 0, none⟩ = some (.int .i64 c.k) := h.cell 0 _ rfl
set_option maxRecDepth 4000 in
theorem VarO.cq (h : VarO w g c) : w.cell? ⟨g, 1, none⟩ = some (.slice c.Q c.lq c.cq) := h.cell 1 _ rfl
set_option maxRecDepth 4000 in
theorem VarO.ct (h : VarO w g c) : w.cell? ⟨g, 2, none⟩ = some (.slice c.T c.lt c.ct) := h.cell 2 _ rfl
set_option maxRecDepth 4000 in
theorem VarO.cz (h : VarO w g c) : w.cell? ⟨g, 3, none⟩ = some (.int .i64 c.z) := h.cell 3 _ rfl
set_option maxRecDepth 4000 in
theorem VarO.cn (h : VarO w g c) : w.cell? ⟨g, 4, none⟩ = some (.bool c.lf) ∧ w.cell? ⟨g, 5, none⟩ = some (.slice c.P c.np c.pc) ∧ w.cell? ⟨g, 6, none⟩ = some (.slice c.X c.nt c.tc) ∧ w.cell? ⟨g, 7, none⟩ = some (.slice c.K c.nk c.kc) := ⟨h.cell 4 _ rfl, h.cell 5 _ rfl, h.cell 6 _ rfl, h.cell 7 _ rfl⟩
set_option maxRecDepth 4000 in
theorem VarO.co (h : VarO w g c) : w.cell? ⟨g, 8, none⟩ = some (.slice c.O c.no c.co) := h.cell 8 _ rfl
set_option maxRecDepth 4000 in
theorem VarO.cw (h : VarO w g c) : w.cell? ⟨g, 9, none⟩ = some (.slice c.W c.nw c.cw) := h.cell 9 _ rfl
set_option maxRecDepth 4000 in
theorem VarO.cx (h : VarO w g c) : w.cell? ⟨g, 10, none⟩ = some (.slice c.S c.nx c.cx) := h.cell 10 _ rfl
set_option maxRecDepth 4000 in
theorem VarO.cf (h : VarO w g c) : w.cell? ⟨g, 11, none⟩ = some (.bool c.fi) ∧ w.cell? ⟨g, 12, none⟩ = some (.slice c.F1 c.f1 c.d1) ∧ w.cell? ⟨g, 13, none⟩ = some (.int .i64 c.fo) ∧ w.cell? ⟨g, 14, none⟩ = some (.slice c.F2 c.f2 c.d2) ∧ w.cell? ⟨g, 15, none⟩ = some (.int .i64 c.fp) := ⟨h.cell 11 _ rfl, h.cell 12 _ rfl, h.cell 13 _ rfl, h.cell 14 _ rfl, h.cell 15 _ rfl⟩
set_option maxRecDepth 4000 in
theorem VarO.cg (h : VarO w g c) : w.cell? ⟨g, 16, none⟩ = some (.bool c.gi) ∧ w.cell? ⟨g, 17, none⟩ = some (.slice c.G1 c.g1 c.e1) ∧ w.cell? ⟨g, 18, none⟩ = some (.int .i64 c.go) ∧ w.cell? ⟨g, 19, none⟩ = some (.slice c.G2 c.g2 c.e2) ∧ w.cell? ⟨g, 20, none⟩ = some (.int .i64 c.gp) := ⟨h.cell 16 _ rfl, h.cell 17 _ rfl, h.cell 18 _ rfl, h.cell 19 _ rfl, h.cell 20 _ rfl⟩
set_option maxRecDepth 4000 in
theorem VarO.range (h : VarO w g c) : w.rangeAt g 0 c.row.toList := fun j v hv => by
  rw [Nat.zero_add]
  exact h.cell j v (by simpa using hv)
set_option maxRecDepth 4000 in
theorem VarO.run (h : VarO w g c) : (Instr.loadAt 35 (.pointer (some ⟨g, 0, none⟩))).run Try.prog w = .ok (.agg c.row) w := by
  obtain ⟨d, h1, h2, h3⟩ := op_row
  exact run_loadAt_mid w g 0 35 c.row.toList d h.range h1 h2 h3
end
set_option maxRecDepth 4000 in
theorem wpList_load_oc {ops : Array Oper} {rest : List Oper} {op : Oper} {a : Act} {w : World} {Q : Exit → Act → World → Prop} {g : Nat} {c : OC} (h : VarO w g c)
    (x : Operand) (ho : op.op = .load 35 x) (hgd : op.guard = none) (hx : a.eval x = .pointer (some ⟨g, 0, none⟩)) (hk : wpList Try.prog ops Q rest (a.put op.dst (.agg c.row)) w) : wpList Try.prog ops Q (op :: rest) a w := by
  obtain ⟨d, h1, h2, h3⟩ := op_row
  exact wpList_load_mid hgd 35 x ho g 0 hx c.row.toList d h.range h1 h2 h3 hk
set_option maxRecDepth 4000 in
theorem wpList_store_oc {ops : Array Oper} {rest : List Oper} {op : Oper} {a : Act} {W : World} {Q : Exit → Act → World → Prop} {g : Nat} {old : Array Value} {c : OC} (x y : Operand) (ho : op.op = .store 35 x y) (hgd : op.guard = none) (hd : op.dst = none) (hx : a.eval x = .pointer (some ⟨g, 0, none⟩)) (hy : a.eval y = .agg c.row) (hg : W.heap.size = g) (hold : old.size = 21)
    (hk : wpList Try.prog ops Q rest a (W.alloc (.cells c.row 35))) : wpList Try.prog ops Q (op :: rest) a (W.alloc (.cells old 35)) := by
  subst hg
  obtain ⟨d, h3, h4, h5⟩ := op_row
  refine wpList_store_row hgd 35 x y ho W.heap.size _ hx hy 35 old (heap_alloc_new _ _) h5 hold c.one ?_
  rw [setRow_new, hd]
  exact hk
set_option maxRecDepth 4000 in
/-- Stored into a variable that was there: nothing else has changed. -/
theorem setRow_off (w : World) (g : Nat) (cells old : Array Value) (t : TypeId) (_h : w.heap[g]? = some (.cells old t (0, 0))) : Off g w (w.setRow g cells) :=
  ⟨rfl, rfl, rfl, by show _ ≤ (w.heap.modify g _).size; simp, fun k _ hne => setRow_other _ _ _ _ hne⟩
set_option maxRecDepth 4000 in
theorem wpList_store_var {ops : Array Oper} {rest : List Oper} {op : Oper} {a : Act} {W : World} {Q : Exit → Act → World → Prop} {g : Nat} {c0 c : OC} (h : VarO W g c0) (x y : Operand) (ho : op.op = .store 35 x y) (hgd : op.guard = none) (hd : op.dst = none) (hx : a.eval x = .pointer (some ⟨g, 0, none⟩)) (hy : a.eval y = .agg c.row)
    (hk : ∀ W', VarO W' g c → Off g W W' → wpList Try.prog ops Q rest a W') : wpList Try.prog ops Q (op :: rest) a W := by
  obtain ⟨d, h3, h4, h5⟩ := op_row
  refine wpList_store_row hgd 35 x y ho g _ hx hy 35 c0.row h h5 rfl c.one ?_
  rw [hd]
  exact hk _ (setRow_heap _ _ c0.row c.row _ (0, 0) h) (setRow_off _ _ _ _ _ h)
set_option maxRecDepth 4000 in
/-- The result that lies in a variable. -/
theorem result_oc {fn : Func} {p : Tmp} (h : fn.results = #[.cell p 35]) (tmps : Array Value) (w : World) {g : Nat} {c : OC} (hv : VarO w g c) (hp : tmps.getD p undef = .pointer (some ⟨g, 0, none⟩)) : (results fn tmps).run Try.prog w = .ok (.agg c.row) w := by
  obtain ⟨d, h3, h4, h5⟩ := op_row
  exact results_cell_row h tmps w g _ _ _ d hp hv h3 (by cases d <;> simp_all) h5
set_option maxRecDepth 4000 in
theorem result_oc2 {fn : Func} {p u : Tmp} (h : fn.results = #[.cell p 35, .tmp u]) (tmps : Array Value) (w : World) {g : Nat} {c : OC} (hv : VarO w g c) (hp : tmps.getD p undef = .pointer (some ⟨g, 0, none⟩)) : (results fn tmps).run Try.prog w = .ok (.tuple #[.agg c.row, tmps.getD u undef]) w := by
  obtain ⟨d, h3, h4, h5⟩ := op_row
  rw [results_cell_tmp h, hp]
  simp only [asAddr, Sem.run_pure, Result.andThen_ok, run_loadVar_row w g _ _ _ _ d hv h3 (by cases d <;> simp_all) h5]

/-- An operation told, and an operation and an error's number. -/
def NewOp (w : World) (o : OpP) (e : Ending) (w' : World) : Prop := ∃ c, e = .returned (.agg (OC.row c)) ∧ OkA w' c o ∧ Below w.heap.size w w'
def NewOE (w : World) (r : OpP × Int) (e : Ending) (w' : World) : Prop := ∃ c, e = .returned (.tuple #[.agg (OC.row c), .int .i64 r.2]) ∧ OkA w' c r.1 ∧ Below w.heap.size w w'
def NewOB (w : World) (r : OpP × Bool) (e : Ending) (w' : World) : Prop := ∃ c, e = .returned (.tuple #[.agg (OC.row c), .bool r.2]) ∧ OkA w' c r.1 ∧ Below w.heap.size w w'

end Go.Proofs.Ytdjajpookmmafaa
