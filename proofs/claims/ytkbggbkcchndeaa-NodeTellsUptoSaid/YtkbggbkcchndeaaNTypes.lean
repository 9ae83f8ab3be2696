/- NodeTypes answers true. -/
import Derived.Test.YtkbggbkcchndeaaNLive
namespace Go.Proofs.Ytkbggbkcchndeaa
open Go.RowKit

/-- Block b holds these four cells. -/
def Box (w : World) (b : Nat) (u0 u1 u2 u3 : Value) : Prop := w.cell? ⟨b, 0, none⟩ = some u0 ∧ w.cell? ⟨b, 1, none⟩ = some u1 ∧ w.cell? ⟨b, 2, none⟩ = some u2 ∧ w.cell? ⟨b, 3, none⟩ = some u3
theorem Box.keep {w w' : World} {b : Nat} {u0 u1 u2 u3 : Value} (h : Box w b u0 u1 u2 u3) (hb : Below w.heap.size w w') : Box w' b u0 u1 u2 u3 :=
  ⟨(hb.cell (cell_in h.1)).trans h.1, (hb.cell (cell_in h.2.1)).trans h.2.1, (hb.cell (cell_in h.2.2.1)).trans h.2.2.1, (hb.cell (cell_in h.2.2.2)).trans h.2.2.2⟩
theorem Box.lt {w : World} {b : Nat} {u0 u1 u2 u3 : Value} (h : Box w b u0 u1 u2 u3) : b < w.heap.size := cell_in h.1
theorem Box.new (w : World) (u0 u1 u2 u3 : Value) (t : TypeId) : Box (w.alloc (.cells #[u0, u1, u2, u3] t)) w.heap.size u0 u1 u2 u3 := by
  refine ⟨?_, ?_, ?_, ?_⟩ <;> (rw [World.cell?_alloc_at _ _ _ _ rfl]; rfl)
theorem Box.alloc {w : World} {b : Nat} {u0 u1 u2 u3 : Value} (h : Box w b u0 u1 u2 u3) (o : Obj) : Box (w.alloc o) b u0 u1 u2 u3 := h.keep ((Below.refl _ _).alloc (Nat.le_refl _) o)

theorem getV_none {ps : List Pr} {k : ByteArray} (h : getB ps k = false) : getV ps k = ByteArray.empty := by
  unfold getB at h; unfold getV
  cases hf : getF ps k with
  | none => rfl
  | some p => rw [hf] at h; cases h

set_option maxHeartbeats 4000000 in
theorem types_any (d : Nat) (w : World) (v : Value) (n : NT) (hn : NodeAt d w w.heap.size v n) : Calls Try.prog 8 #[v] w (Still (.bool true) w) := by
  have hn0 := hn
  obtain ⟨d', lf, ps, tx, ks, PA, pc, TA, tc, KA, kc, hd', rfl, rfl, hp, ht, hf, hks⟩ := hn.open_
  have hb1 : Below w.heap.size w (w.alloc (.cells #[.bool lf, .slice PA ps.length pc, .slice TA tx.length tc, .slice KA ks.length kc] 26)) := (Below.refl _ _).alloc (Nat.le_refl _) _
  have HL := hd (live_any (w.alloc (.cells #[.bool lf, .slice PA ps.length pc, .slice TA tx.length tc, .slice KA ks.length kc] 26)))
  have HC := fun (w' : World) (hb : Below w.heap.size w w') => hd (few_any d w' _ _ 200 (by unfold In64; omega) (hn0.later hb))
  have HG := fun (w' : World) (hb : Below w.heap.size w w') => hd (pget_any PA ps pc tyKey w' (by have := hf.2.1; omega) ((hp.below hb).more hb.size))
  have HT := fun (b : Bool) (w' : World) (hb : Below w.heap.size w w') => hd (type_any b PA ps pc (.slice TA tx.length tc) (.slice KA ks.length kc) w' (by have := hf.2.1; omega) ((hp.below hb).more hb.size))
  have HB := hd hb1
  obtain ⟨F, hF⟩ : ∃ F, F = fewB 200 (.mk lf ps tx ks) := ⟨_, rfl⟩
  simp only [← hF] at HC
  clear hn hn0 hp ht hf hks hd' hb1 hF
  cases F
  · clear HG HT
    go_enter Try.func8, Try.ntmps8
    go_wp2_with (first
      | (go_at_call 9; refine HL.out.mono ?_; rintro e w1 ⟨rfl, b1⟩; have X1 := hd ((Box.new _ _ _ _ _ _).keep b1); obtain ⟨x0, x1, x2, x3⟩ := X1.out; have B1 := hd (HB.out.trans (b1.mono HB.out.size)))
      | (go_at_call 10; refine (HC _ B1.out).out.mono ?_; rintro e w2 ⟨rfl, b2⟩))
    go_ret
    exact ⟨rfl, B1.out.trans (b2.mono B1.out.size)⟩
  · obtain ⟨V, hV⟩ : ∃ V, V = getV ps tyKey := ⟨_, rfl⟩
    obtain ⟨G, hG⟩ : ∃ G, G = getB ps tyKey := ⟨_, rfl⟩
    have hGV : G = false → V = ByteArray.empty := fun h => by rw [hV]; exact getV_none (by rw [← hG]; exact h)
    have HT0 := fun (w' : World) (hb : Below w.heap.size w w') => (HT false w' hb)
    have HT1 := fun (w' : World) (hb : Below w.heap.size w w') => (HT true w' hb)
    rw [show typeT false ps = V from hV.symm] at HT0
    rw [show typeT true ps = { data := #[] } from rfl] at HT1
    simp only [← hV, ← hG] at HG
    clear HT hV hG
    cases G
    · obtain rfl := hGV rfl
      clear hGV
      rw [show ByteArray.empty = { data := #[] } from rfl] at HG HT0
      go_enter Try.func8, Try.ntmps8
      go_wp2_with (first
        | (go_at_call 9; refine HL.out.mono ?_; rintro e w1 ⟨rfl, b1⟩; have X1 := hd ((Box.new _ _ _ _ _ _).keep b1); obtain ⟨x0, x1, x2, x3⟩ := X1.out; have B1 := hd (HB.out.trans (b1.mono HB.out.size)))
        | (go_at_call 10; refine (HC _ B1.out).out.mono ?_; rintro e w2 ⟨rfl, b2⟩; have X2 := hd (X1.out.keep b2); have B2 := hd (B1.out.trans (b2.mono B1.out.size)); clear x0 x1 x2 x3; obtain ⟨x0, x1, x2, x3⟩ := X2.out)
        | (go_at_call 27; refine (HG _ B2.out).out.mono ?_; rintro e w3 ⟨rfl, b3⟩; have X3 := hd (X2.out.keep b3); have B3 := hd (B2.out.trans (b3.mono B2.out.size)); clear x0 x1 x2 x3; obtain ⟨x0, x1, x2, x3⟩ := X3.out; have hl3 := X3.out.lt)
        | (go_at_call 16; refine (HT0 _ B4.out).out.mono ?_; rintro e w5 ⟨rfl, b5⟩; have B5 := hd (B4.out.trans (b5.mono B4.out.size)))
        | (go_at_call 16; refine (HT1 _ ((B3.out.alloc B3.out.size _).alloc (by simp; omega) _)).out.mono ?_; rintro e w4 ⟨rfl, b4⟩; have B4 := hd (((B3.out.alloc B3.out.size _).alloc (by simp; omega) _).trans (b4.mono (by simp; omega))); obtain ⟨⟨z0, z1, z2, z3⟩, ⟨y0, y1, y2, y3⟩, hl4⟩ := box8 b4))
      go_ret
      exact ⟨rfl, B5.out⟩
    · clear hGV
      go_enter Try.func8, Try.ntmps8
      go_wp2_with (first
        | (go_at_call 9; refine HL.out.mono ?_; rintro e w1 ⟨rfl, b1⟩; have X1 := hd ((Box.new _ _ _ _ _ _).keep b1); obtain ⟨x0, x1, x2, x3⟩ := X1.out; have B1 := hd (HB.out.trans (b1.mono HB.out.size)))
        | (go_at_call 10; refine (HC _ B1.out).out.mono ?_; rintro e w2 ⟨rfl, b2⟩; have X2 := hd (X1.out.keep b2); have B2 := hd (B1.out.trans (b2.mono B1.out.size)); clear x0 x1 x2 x3; obtain ⟨x0, x1, x2, x3⟩ := X2.out)
        | (go_at_call 27; refine (HG _ B2.out).out.mono ?_; rintro e w3 ⟨rfl, b3⟩; have X3 := hd (X2.out.keep b3); have B3 := hd (B2.out.trans (b3.mono B2.out.size)); clear x0 x1 x2 x3; obtain ⟨x0, x1, x2, x3⟩ := X3.out; have hl3 := X3.out.lt)
        | (go_at_call 16; refine (HT0 _ B4.out).out.mono ?_; rintro e w5 ⟨rfl, b5⟩; have B5 := hd (B4.out.trans (b5.mono B4.out.size)))
        | (go_at_call 16; refine (HT1 _ ((B3.out.alloc B3.out.size _).alloc (by simp; omega) _)).out.mono ?_; rintro e w4 ⟨rfl, b4⟩; have B4 := hd (((B3.out.alloc B3.out.size _).alloc (by simp; omega) _).trans (b4.mono (by simp; omega))); obtain ⟨⟨z0, z1, z2, z3⟩, ⟨y0, y1, y2, y3⟩, hl4⟩ := box8 b4))
      go_ret
      exact ⟨rfl, B5.out⟩

end Go.Proofs.Ytkbggbkcchndeaa
