/- The calls on an operation's parts, in the world that they are made in. -/
import Derived.Test.YtdjajpookmmafaaBUndo
namespace Go.Proofs.Ytdjajpookmmafaa
open Go.RowKit

section
variable {W : World} {c d : OC} {a b : OpP} {E : Bool}
set_option maxRecDepth 4000 in
theorem OkA.xq (h : OkA W c a) (t : Tiny a) : XA W (.slice c.Q c.lq c.cq) a.q := ⟨_, _, _, rfl, h.hlq, by have := t.hq; have := h.hlq; omega, h.hcq, h.hq⟩
set_option maxRecDepth 4000 in
theorem OkA.xt (h : OkA W c a) (t : Tiny a) : XA W (.slice c.T c.lt c.ct) a.t := ⟨_, _, _, rfl, h.hlt, by have := t.ht; have := h.hlt; omega, h.hct, h.ht⟩
set_option maxRecDepth 4000 in
theorem OkA.pf (h : OkA W c a) (t : Tiny a) : PtAt W (.agg #[.slice c.F1 c.f1 c.d1, .int .i64 c.fo]) a.f.a ∧ PtAt W (.agg #[.slice c.F2 c.f2 c.d2, .int .i64 c.fp]) a.f.f :=
  h.hf.two (by have := t.hfa; have := h.hf.hn; omega) (by have := t.hff; have := h.hf.hm; omega)
set_option maxRecDepth 4000 in
theorem OkA.pg (h : OkA W c a) (t : Tiny a) : PtAt W (.agg #[.slice c.G1 c.g1 c.e1, .int .i64 c.go]) a.g.a ∧ PtAt W (.agg #[.slice c.G2 c.g2 c.e2, .int .i64 c.gp]) a.g.f :=
  h.hg.two (by have := t.hga; have := h.hg.hn; omega) (by have := t.hgf; have := h.hg.hm; omega)

set_option maxRecDepth 4000 in
theorem sq_at (h : OkA W c a) (g : OkA W d b) (ta : Tiny a) (tb : Tiny b) (hs : samI a.q b.q = E) : Calls Try.prog 31 #[.slice c.Q c.lq c.cq, .slice d.Q d.lq d.cq] W (Still (.bool E) W) := xrsame_at (h.xq ta) (g.xq tb) hs
set_option maxRecDepth 4000 in
theorem st_at (h : OkA W c a) (g : OkA W d b) (ta : Tiny a) (tb : Tiny b) (hs : samI a.t b.t = E) : Calls Try.prog 31 #[.slice c.T c.lt c.ct, .slice d.T d.lt d.ct] W (Still (.bool E) W) := xrsame_at (h.xt ta) (g.xt tb) hs
set_option maxRecDepth 4000 in
theorem sn_at (h : OkA W c a) (g : OkA W d b) (hs : eqT a.n b.n = E) : Calls Try.prog 24 #[.agg #[.bool c.lf, .slice c.P c.np c.pc, .slice c.X c.nt c.tc, .slice c.K c.nk c.kc], .agg #[.bool d.lf, .slice d.P d.np d.pc, .slice d.X d.nt d.tc, .slice d.K d.nk d.kc]] W (Still (.bool E) W) := by
  obtain ⟨d1, h1⟩ := h.hn
  obtain ⟨d2, h2⟩ := g.hn
  subst hs
  exact rnsame_any d1 d2 W _ _ _ _ h1 h2
set_option maxRecDepth 4000 in
theorem snp_at (h : OkA W c a) (g : OkA W d b) (hs : eqT a.n b.n = E) : Calls Try.prog 55 #[.agg #[.bool c.lf, .slice c.P c.np c.pc, .slice c.X c.nt c.tc, .slice c.K c.nk c.kc], .agg #[.bool d.lf, .slice d.P d.np d.pc, .slice d.X d.nt d.tc, .slice d.K d.nk d.kc]] W (Still (.bool E) W) := by
  obtain ⟨d1, h1⟩ := h.hn
  obtain ⟨d2, h2⟩ := g.hn
  subst hs
  exact nsame_any d1 d2 W _ _ _ _ h1 h2
set_option maxRecDepth 4000 in
theorem so_at (h : OkA W c a) (g : OkA W d b) (hs : decide (a.o = b.o) = E) : Calls Try.prog 32 #[.slice c.O c.no c.co, .slice d.O d.no d.co] W (Still (.bool E) W) := by
  subst hs
  rw [← h.hno, ← g.hno]
  exact prsame_any _ _ _ _ _ _ W (by have := h.hno; have := h.hmo; omega) (by have := g.hno; have := g.hmo; omega) h.ho g.ho
set_option maxRecDepth 4000 in
theorem sw_at (h : OkA W c a) (g : OkA W d b) (hs : decide (a.w = b.w) = E) : Calls Try.prog 32 #[.slice c.W c.nw c.cw, .slice d.W d.nw d.cw] W (Still (.bool E) W) := by
  subst hs
  rw [← h.hnw, ← g.hnw]
  exact prsame_any _ _ _ _ _ _ W (by have := h.hnw; have := h.hmw; omega) (by have := g.hnw; have := g.hmw; omega) h.hw g.hw
set_option maxRecDepth 4000 in
theorem sx_at (h : OkA W c a) (g : OkA W d b) (hs : sameL a.x b.x = E) : Calls Try.prog 33 #[.slice c.S c.nx c.cx, .slice d.S d.nx d.cx] W (Still (.bool E) W) :=
  calls_still (rsame_any _ _ _ _ _ _ _ _ E hs W h.hnx g.hnx (by have := h.hmx; omega) (by have := g.hmx; omega) h.hx g.hx)
set_option maxRecDepth 4000 in
theorem rsel_at {s t : Sl} {si ti : Bool} {A B C D : Option Addr} {na ca nb cb nc cc nd cd : Nat} {x y u v : Int} (h : SelA W si A na ca x B nb cb y s) (g : SelA W ti C nc cc u D nd cd v t) (h1 : na ≤ 10000000) (h2 : nb ≤ 10000000) (h3 : nc ≤ 10000000) (h4 : nd ≤ 10000000) (hs : samS s t = E) :
    Calls Try.prog 34 #[.agg #[.bool si, .slice A na ca, .int .i64 x, .slice B nb cb, .int .i64 y], .agg #[.bool ti, .slice C nc cc, .int .i64 u, .slice D nd cd, .int .i64 v]] W (Still (.bool E) W) := by
  obtain ⟨a1, a2⟩ := h.two h1 h2
  obtain ⟨b1, b2⟩ := g.two h3 h4
  have e1 := h.his
  have e2 := h.hx
  have e3 := h.hy
  have e4 := g.his
  have e5 := g.hx
  have e6 := g.hy
  subst hs e1 e2 e3 e4 e5 e6
  exact rsamesel_any W s t A B C D na nb nc nd ca cb cc cd a1 a2 b1 b2
set_option maxRecDepth 4000 in
theorem psel_at {s t : Sl} {si ti : Bool} {A B C D : Option Addr} {na ca nb cb nc cc nd cd : Nat} {x y u v : Int} (h : SelA W si A na ca x B nb cb y s) (g : SelA W ti C nc cc u D nd cd v t) (h1 : na ≤ 10000000) (h2 : nb ≤ 10000000) (h3 : nc ≤ 10000000) (h4 : nd ≤ 10000000) (hs : samS s t = E) :
    Calls Try.prog 54 #[.agg #[.bool si, .slice A na ca, .int .i64 x, .slice B nb cb, .int .i64 y], .agg #[.bool ti, .slice C nc cc, .int .i64 u, .slice D nd cd, .int .i64 v]] W (Still (.bool E) W) := by
  obtain ⟨a1, a2⟩ := h.two h1 h2
  obtain ⟨b1, b2⟩ := g.two h3 h4
  have e1 := h.his
  have e2 := h.hx
  have e3 := h.hy
  have e4 := g.his
  have e5 := g.hx
  have e6 := g.hy
  subst hs e1 e2 e3 e4 e5 e6
  exact samesel_any W s t A B C D na nb nc nd ca cb cc cd a1 a2 b1 b2
set_option maxRecDepth 4000 in
theorem sf_at (h : OkA W c a) (g : OkA W d b) (ta : Tiny a) (tb : Tiny b) (hs : samS a.f b.f = E) : Calls Try.prog 34 #[.agg #[.bool c.fi, .slice c.F1 c.f1 c.d1, .int .i64 c.fo, .slice c.F2 c.f2 c.d2, .int .i64 c.fp], .agg #[.bool d.fi, .slice d.F1 d.f1 d.d1, .int .i64 d.fo, .slice d.F2 d.f2 d.d2, .int .i64 d.fp]] W (Still (.bool E) W) :=
  rsel_at h.hf g.hf (by have := ta.hfa; have := h.hf.hn; omega) (by have := ta.hff; have := h.hf.hm; omega) (by have := tb.hfa; have := g.hf.hn; omega) (by have := tb.hff; have := g.hf.hm; omega) hs
set_option maxRecDepth 4000 in
theorem sg_at (h : OkA W c a) (g : OkA W d b) (ta : Tiny a) (tb : Tiny b) (hs : samS a.g b.g = E) : Calls Try.prog 34 #[.agg #[.bool c.gi, .slice c.G1 c.g1 c.e1, .int .i64 c.go, .slice c.G2 c.g2 c.e2, .int .i64 c.gp], .agg #[.bool d.gi, .slice d.G1 d.g1 d.e1, .int .i64 d.go, .slice d.G2 d.g2 d.e2, .int .i64 d.gp]] W (Still (.bool E) W) :=
  rsel_at h.hg g.hg (by have := ta.hga; have := h.hg.hn; omega) (by have := ta.hgf; have := h.hg.hm; omega) (by have := tb.hga; have := g.hg.hn; omega) (by have := tb.hgf; have := g.hg.hm; omega) hs
end
set_option maxRecDepth 4000 in
/-- Two variables of operations, one behind the other. -/
theorem two_ops (w : World) (c d : OC) : ∃ W0, (w.alloc (.cells c.row 35)).alloc (.cells d.row 35) = W0 ∧ Below w.heap.size w W0 ∧ W0.heap.size = w.heap.size + 1 + 1 ∧ VarO W0 w.heap.size c ∧ VarO W0 (w.heap.size + 1) d := by
  have h := pt_new w (.cells c.row 35) (.cells d.row 35)
  exact ⟨_, rfl, below_mono2 (Below.refl _ _) (Nat.le_refl _), by simp, h.1, h.2⟩

end Go.Proofs.Ytdjajpookmmafaa
