/- The walk of GlyphEnds: whatever the input, it answers true, and old memory stays as it was. -/
import Derived.Test.YtknkclbjocfhiaaDoorGLive
namespace Go.Proofs.YtknkclbjocfhiaaDoor
open Go.RowKit

theorem byte_str (B : UInt8) (W : World) : (convert 39 9 (.slice (some ⟨W.heap.size, 0, none⟩) 1 1)).run Tryd.prog (W.alloc (.cells #[.int .u8 B.toNat] 5)) = .ok (.string (bs [B])) (W.alloc (.cells #[.int .u8 B.toNat] 5)) :=
  str_of (l := [B]) (VL_new W 5 (bv [B])) rfl (by omega)
set_option maxRecDepth 4000 in
theorem bs_append (a b : List UInt8) : bs a ++ bs b = bs (a ++ b) := ByteArray.mk_append_mk a b
set_option maxRecDepth 4000 in
theorem bs_take (l : List UInt8) (n : Nat) : (bs l).extract 0 n = bs (l.take n) := by
  show (ByteArray.mk l.toArray).extract 0 n = ByteArray.mk (l.take n).toArray
  rw [ByteArray.extract_mk]; simp
set_option maxRecDepth 4000 in
theorem unq_call (l : List UInt8) (w : World) (r : List Int × Int × Int) (hr : unqL l = r) (hl : l.length ≤ 40000) : Calls Tryd.prog 90 #[.string (bs l)] w (UnqOk r w) := by
  subst hr
  exact unquote_any (bs l) w (by rw [bs_size]; exact hl)
set_option maxRecDepth 4000 in
theorem UnqOk.own {w w' : World} {r : List Int × Int × Int} {e : Ending} (h : UnqOk r w e w') (l : List Int) (p er : Int) (n : Nat) (hr : r = (l, p, er)) (hn : l.length = n) :
    ∃ A c, e = .returned (.tuple #[.slice A n c, .int .i64 p, .int .i64 er]) ∧ n ≤ c ∧ VL w' w'.heap.size A (rv l) ∧ Below w.heap.size w w' := by
  subst hr
  obtain ⟨v, he, ho, hb⟩ := h
  obtain ⟨A, c, rfl, h1, _, h2, _⟩ := ho.open_at n (by rw [rv_len]; exact hn)
  exact ⟨A, c, he, h1, h2, hb⟩

end Go.Proofs.YtknkclbjocfhiaaDoor
