/- The document's Same of operations. -/
import Derived.Test.YtdjajpookmmafaaBVars
namespace Go.Proofs.Ytdjajpookmmafaa
open Go.RowKit

set_option maxRecDepth 100000 in
set_option maxHeartbeats 4000000 in
theorem bsame_0 (w : World) (c d : OC) (a b : OpP) (ha : OkA w c a) (hb : OkA w d b) (ta : Tiny a) (tb : Tiny b)  (hk : (c.k == d.k) = false) : Calls Try.prog 13 #[.agg c.row, .agg d.row] w (Still (.bool false) w) := by
  obtain ⟨W0, hW, hb0, hsz, e1, e2⟩ := two_ops w c d
  have HKA := hd (fun W (h : Below W0.heap.size W0 W) => e1.keep h)
  have HKB := hd (fun W (h : Below W0.heap.size W0 W) => e2.keep h)
  have HOA := hd (fun W (h : Below W0.heap.size W0 W) => (ha.later hb0).later h)
  have HOB := hd (fun W (h : Below W0.heap.size W0 W) => (hb.later hb0).later h)
  have HTA := hd ta
  have HTB := hd tb
  have HW := hd hW
  have HBE := hd hb0
  have HBc := hd (Below.refl W0.heap.size W0)
  have uk0 := (HKA.out _ HBc.out).ck
  have vk0 := (HKB.out _ HBc.out).ck
  have uq0 := (HKA.out _ HBc.out).cq
  have vq0 := (HKB.out _ HBc.out).cq
  clear hW hb0 hsz e1 e2 ha hb ta tb
  go_enter Try.func13, Try.ntmps13
  go_upto_region 1 with fail
  rw [HW.out]
  go_wp2_with fail
  go_ret
  exact ⟨rfl, HBE.out.trans (HBc.out.mono HBE.out.size)⟩
set_option maxRecDepth 100000 in
set_option maxHeartbeats 4000000 in
theorem bsame_1 (w : World) (c d : OC) (a b : OpP) (ha : OkA w c a) (hb : OkA w d b) (ta : Tiny a) (tb : Tiny b) (hk : (c.k == d.k) = true) (hq : samI a.q b.q = false) : Calls Try.prog 13 #[.agg c.row, .agg d.row] w (Still (.bool false) w) := by
  obtain ⟨W0, hW, hb0, hsz, e1, e2⟩ := two_ops w c d
  have HKA := hd (fun W (h : Below W0.heap.size W0 W) => e1.keep h)
  have HKB := hd (fun W (h : Below W0.heap.size W0 W) => e2.keep h)
  have HOA := hd (fun W (h : Below W0.heap.size W0 W) => (ha.later hb0).later h)
  have HOB := hd (fun W (h : Below W0.heap.size W0 W) => (hb.later hb0).later h)
  have HTA := hd ta
  have HTB := hd tb
  have HW := hd hW
  have HBE := hd hb0
  have HBc := hd (Below.refl W0.heap.size W0)
  have uk0 := (HKA.out _ HBc.out).ck
  have vk0 := (HKB.out _ HBc.out).ck
  have uq0 := (HKA.out _ HBc.out).cq
  have vq0 := (HKB.out _ HBc.out).cq
  clear hW hb0 hsz e1 e2 ha hb ta tb
  have Hq := hd hq
  clear hq
  go_enter Try.func13, Try.ntmps13
  go_upto_region 1 with fail
  rw [HW.out]
  go_wp2_with (first
    | (go_at_call 31; have _g := Hq; refine Calls.mono (sq_at (HOA.out _ HBc.out) (HOB.out _ HBc.out) HTA.out HTB.out Hq.out) ?_; clear Hq; rintro e w9 ⟨rfl, b9⟩; have HBc := hd (step_b HBc.out b9); clear b9 uq0 vq0 uk0 vk0; have ut0 := (HKA.out _ HBc.out).ct; have vt0 := (HKB.out _ HBc.out).ct))
  go_ret
  exact ⟨rfl, HBE.out.trans (HBc.out.mono HBE.out.size)⟩
set_option maxRecDepth 100000 in
set_option maxHeartbeats 4000000 in
theorem bsame_2 (w : World) (c d : OC) (a b : OpP) (ha : OkA w c a) (hb : OkA w d b) (ta : Tiny a) (tb : Tiny b) (hk : (c.k == d.k) = true) (hq : samI a.q b.q = true) (ht : samI a.t b.t = false) : Calls Try.prog 13 #[.agg c.row, .agg d.row] w (Still (.bool false) w) := by
  obtain ⟨W0, hW, hb0, hsz, e1, e2⟩ := two_ops w c d
  have HKA := hd (fun W (h : Below W0.heap.size W0 W) => e1.keep h)
  have HKB := hd (fun W (h : Below W0.heap.size W0 W) => e2.keep h)
  have HOA := hd (fun W (h : Below W0.heap.size W0 W) => (ha.later hb0).later h)
  have HOB := hd (fun W (h : Below W0.heap.size W0 W) => (hb.later hb0).later h)
  have HTA := hd ta
  have HTB := hd tb
  have HW := hd hW
  have HBE := hd hb0
  have HBc := hd (Below.refl W0.heap.size W0)
  have uk0 := (HKA.out _ HBc.out).ck
  have vk0 := (HKB.out _ HBc.out).ck
  have uq0 := (HKA.out _ HBc.out).cq
  have vq0 := (HKB.out _ HBc.out).cq
  clear hW hb0 hsz e1 e2 ha hb ta tb
  have Hq := hd hq
  clear hq
  have Ht := hd ht
  clear ht
  go_enter Try.func13, Try.ntmps13
  go_upto_region 1 with fail
  rw [HW.out]
  go_wp2_with (first
    | (go_at_call 31; have _g := Hq; refine Calls.mono (sq_at (HOA.out _ HBc.out) (HOB.out _ HBc.out) HTA.out HTB.out Hq.out) ?_; clear Hq; rintro e w9 ⟨rfl, b9⟩; have HBc := hd (step_b HBc.out b9); clear b9 uq0 vq0 uk0 vk0; have ut0 := (HKA.out _ HBc.out).ct; have vt0 := (HKB.out _ HBc.out).ct)
    | (go_at_call 31; have _g := Ht; refine Calls.mono (st_at (HOA.out _ HBc.out) (HOB.out _ HBc.out) HTA.out HTB.out Ht.out) ?_; clear Ht; rintro e w9 ⟨rfl, b9⟩; have HBc := hd (step_b HBc.out b9); clear b9 ut0 vt0; have uz0 := (HKA.out _ HBc.out).cz; have vz0 := (HKB.out _ HBc.out).cz; obtain ⟨un0, un1, un2, un3⟩ := (HKA.out _ HBc.out).cn; obtain ⟨vn0, vn1, vn2, vn3⟩ := (HKB.out _ HBc.out).cn))
  go_ret
  exact ⟨rfl, HBE.out.trans (HBc.out.mono HBE.out.size)⟩
set_option maxRecDepth 100000 in
set_option maxHeartbeats 4000000 in
theorem bsame_3 (w : World) (c d : OC) (a b : OpP) (ha : OkA w c a) (hb : OkA w d b) (ta : Tiny a) (tb : Tiny b) (hk : (c.k == d.k) = true) (hq : samI a.q b.q = true) (ht : samI a.t b.t = true) (hz : (c.z == d.z) = false) : Calls Try.prog 13 #[.agg c.row, .agg d.row] w (Still (.bool false) w) := by
  obtain ⟨W0, hW, hb0, hsz, e1, e2⟩ := two_ops w c d
  have HKA := hd (fun W (h : Below W0.heap.size W0 W) => e1.keep h)
  have HKB := hd (fun W (h : Below W0.heap.size W0 W) => e2.keep h)
  have HOA := hd (fun W (h : Below W0.heap.size W0 W) => (ha.later hb0).later h)
  have HOB := hd (fun W (h : Below W0.heap.size W0 W) => (hb.later hb0).later h)
  have HTA := hd ta
  have HTB := hd tb
  have HW := hd hW
  have HBE := hd hb0
  have HBc := hd (Below.refl W0.heap.size W0)
  have uk0 := (HKA.out _ HBc.out).ck
  have vk0 := (HKB.out _ HBc.out).ck
  have uq0 := (HKA.out _ HBc.out).cq
  have vq0 := (HKB.out _ HBc.out).cq
  clear hW hb0 hsz e1 e2 ha hb ta tb
  have Hq := hd hq
  clear hq
  have Ht := hd ht
  clear ht
  go_enter Try.func13, Try.ntmps13
  go_upto_region 1 with fail
  rw [HW.out]
  go_wp2_with (first
    | (go_at_call 31; have _g := Hq; refine Calls.mono (sq_at (HOA.out _ HBc.out) (HOB.out _ HBc.out) HTA.out HTB.out Hq.out) ?_; clear Hq; rintro e w9 ⟨rfl, b9⟩; have HBc := hd (step_b HBc.out b9); clear b9 uq0 vq0 uk0 vk0; have ut0 := (HKA.out _ HBc.out).ct; have vt0 := (HKB.out _ HBc.out).ct)
    | (go_at_call 31; have _g := Ht; refine Calls.mono (st_at (HOA.out _ HBc.out) (HOB.out _ HBc.out) HTA.out HTB.out Ht.out) ?_; clear Ht; rintro e w9 ⟨rfl, b9⟩; have HBc := hd (step_b HBc.out b9); clear b9 ut0 vt0; have uz0 := (HKA.out _ HBc.out).cz; have vz0 := (HKB.out _ HBc.out).cz; obtain ⟨un0, un1, un2, un3⟩ := (HKA.out _ HBc.out).cn; obtain ⟨vn0, vn1, vn2, vn3⟩ := (HKB.out _ HBc.out).cn))
  go_ret
  exact ⟨rfl, HBE.out.trans (HBc.out.mono HBE.out.size)⟩
set_option maxRecDepth 100000 in
set_option maxHeartbeats 4000000 in
theorem bsame_4 (w : World) (c d : OC) (a b : OpP) (ha : OkA w c a) (hb : OkA w d b) (ta : Tiny a) (tb : Tiny b) (hk : (c.k == d.k) = true) (hq : samI a.q b.q = true) (ht : samI a.t b.t = true) (hz : (c.z == d.z) = true) (hn : eqT a.n b.n = false) : Calls Try.prog 13 #[.agg c.row, .agg d.row] w (Still (.bool false) w) := by
  obtain ⟨W0, hW, hb0, hsz, e1, e2⟩ := two_ops w c d
  have HKA := hd (fun W (h : Below W0.heap.size W0 W) => e1.keep h)
  have HKB := hd (fun W (h : Below W0.heap.size W0 W) => e2.keep h)
  have HOA := hd (fun W (h : Below W0.heap.size W0 W) => (ha.later hb0).later h)
  have HOB := hd (fun W (h : Below W0.heap.size W0 W) => (hb.later hb0).later h)
  have HTA := hd ta
  have HTB := hd tb
  have HW := hd hW
  have HBE := hd hb0
  have HBc := hd (Below.refl W0.heap.size W0)
  have uk0 := (HKA.out _ HBc.out).ck
  have vk0 := (HKB.out _ HBc.out).ck
  have uq0 := (HKA.out _ HBc.out).cq
  have vq0 := (HKB.out _ HBc.out).cq
  clear hW hb0 hsz e1 e2 ha hb ta tb
  have Hq := hd hq
  clear hq
  have Ht := hd ht
  clear ht
  have Hn := hd hn
  clear hn
  go_enter Try.func13, Try.ntmps13
  go_upto_region 1 with fail
  rw [HW.out]
  go_wp2_with (first
    | (go_at_call 31; have _g := Hq; refine Calls.mono (sq_at (HOA.out _ HBc.out) (HOB.out _ HBc.out) HTA.out HTB.out Hq.out) ?_; clear Hq; rintro e w9 ⟨rfl, b9⟩; have HBc := hd (step_b HBc.out b9); clear b9 uq0 vq0 uk0 vk0; have ut0 := (HKA.out _ HBc.out).ct; have vt0 := (HKB.out _ HBc.out).ct)
    | (go_at_call 31; have _g := Ht; refine Calls.mono (st_at (HOA.out _ HBc.out) (HOB.out _ HBc.out) HTA.out HTB.out Ht.out) ?_; clear Ht; rintro e w9 ⟨rfl, b9⟩; have HBc := hd (step_b HBc.out b9); clear b9 ut0 vt0; have uz0 := (HKA.out _ HBc.out).cz; have vz0 := (HKB.out _ HBc.out).cz; obtain ⟨un0, un1, un2, un3⟩ := (HKA.out _ HBc.out).cn; obtain ⟨vn0, vn1, vn2, vn3⟩ := (HKB.out _ HBc.out).cn)
    | (go_at_call 24; have _g := Hn; refine Calls.mono (sn_at (HOA.out _ HBc.out) (HOB.out _ HBc.out) Hn.out) ?_; clear Hn; rintro e w9 ⟨rfl, b9⟩; have HBc := hd (step_b HBc.out b9); clear b9 un0 un1 un2 un3 vn0 vn1 vn2 vn3 uz0 vz0; have uo0 := (HKA.out _ HBc.out).co; have vo0 := (HKB.out _ HBc.out).co))
  go_ret
  exact ⟨rfl, HBE.out.trans (HBc.out.mono HBE.out.size)⟩
set_option maxRecDepth 100000 in
set_option maxHeartbeats 4000000 in
theorem bsame_5 (w : World) (c d : OC) (a b : OpP) (ha : OkA w c a) (hb : OkA w d b) (ta : Tiny a) (tb : Tiny b) (hk : (c.k == d.k) = true) (hq : samI a.q b.q = true) (ht : samI a.t b.t = true) (hz : (c.z == d.z) = true) (hn : eqT a.n b.n = true) (ho : decide (a.o = b.o) = false) : Calls Try.prog 13 #[.agg c.row, .agg d.row] w (Still (.bool false) w) := by
  obtain ⟨W0, hW, hb0, hsz, e1, e2⟩ := two_ops w c d
  have HKA := hd (fun W (h : Below W0.heap.size W0 W) => e1.keep h)
  have HKB := hd (fun W (h : Below W0.heap.size W0 W) => e2.keep h)
  have HOA := hd (fun W (h : Below W0.heap.size W0 W) => (ha.later hb0).later h)
  have HOB := hd (fun W (h : Below W0.heap.size W0 W) => (hb.later hb0).later h)
  have HTA := hd ta
  have HTB := hd tb
  have HW := hd hW
  have HBE := hd hb0
  have HBc := hd (Below.refl W0.heap.size W0)
  have uk0 := (HKA.out _ HBc.out).ck
  have vk0 := (HKB.out _ HBc.out).ck
  have uq0 := (HKA.out _ HBc.out).cq
  have vq0 := (HKB.out _ HBc.out).cq
  clear hW hb0 hsz e1 e2 ha hb ta tb
  have Hq := hd hq
  clear hq
  have Ht := hd ht
  clear ht
  have Hn := hd hn
  clear hn
  have Ho := hd ho
  clear ho
  go_enter Try.func13, Try.ntmps13
  go_upto_region 1 with fail
  rw [HW.out]
  go_wp2_with (first
    | (go_at_call 31; have _g := Hq; refine Calls.mono (sq_at (HOA.out _ HBc.out) (HOB.out _ HBc.out) HTA.out HTB.out Hq.out) ?_; clear Hq; rintro e w9 ⟨rfl, b9⟩; have HBc := hd (step_b HBc.out b9); clear b9 uq0 vq0 uk0 vk0; have ut0 := (HKA.out _ HBc.out).ct; have vt0 := (HKB.out _ HBc.out).ct)
    | (go_at_call 31; have _g := Ht; refine Calls.mono (st_at (HOA.out _ HBc.out) (HOB.out _ HBc.out) HTA.out HTB.out Ht.out) ?_; clear Ht; rintro e w9 ⟨rfl, b9⟩; have HBc := hd (step_b HBc.out b9); clear b9 ut0 vt0; have uz0 := (HKA.out _ HBc.out).cz; have vz0 := (HKB.out _ HBc.out).cz; obtain ⟨un0, un1, un2, un3⟩ := (HKA.out _ HBc.out).cn; obtain ⟨vn0, vn1, vn2, vn3⟩ := (HKB.out _ HBc.out).cn)
    | (go_at_call 24; have _g := Hn; refine Calls.mono (sn_at (HOA.out _ HBc.out) (HOB.out _ HBc.out) Hn.out) ?_; clear Hn; rintro e w9 ⟨rfl, b9⟩; have HBc := hd (step_b HBc.out b9); clear b9 un0 un1 un2 un3 vn0 vn1 vn2 vn3 uz0 vz0; have uo0 := (HKA.out _ HBc.out).co; have vo0 := (HKB.out _ HBc.out).co)
    | (go_at_call 32; have _g := Ho; refine Calls.mono (so_at (HOA.out _ HBc.out) (HOB.out _ HBc.out) Ho.out) ?_; clear Ho; rintro e w9 ⟨rfl, b9⟩; have HBc := hd (step_b HBc.out b9); clear b9 uo0 vo0; have uw0 := (HKA.out _ HBc.out).cw; have vw0 := (HKB.out _ HBc.out).cw))
  go_ret
  exact ⟨rfl, HBE.out.trans (HBc.out.mono HBE.out.size)⟩
set_option maxRecDepth 100000 in
set_option maxHeartbeats 4000000 in
theorem bsame_6 (w : World) (c d : OC) (a b : OpP) (ha : OkA w c a) (hb : OkA w d b) (ta : Tiny a) (tb : Tiny b) (hk : (c.k == d.k) = true) (hq : samI a.q b.q = true) (ht : samI a.t b.t = true) (hz : (c.z == d.z) = true) (hn : eqT a.n b.n = true) (ho : decide (a.o = b.o) = true) (hw : decide (a.w = b.w) = false) : Calls Try.prog 13 #[.agg c.row, .agg d.row] w (Still (.bool false) w) := by
  obtain ⟨W0, hW, hb0, hsz, e1, e2⟩ := two_ops w c d
  have HKA := hd (fun W (h : Below W0.heap.size W0 W) => e1.keep h)
  have HKB := hd (fun W (h : Below W0.heap.size W0 W) => e2.keep h)
  have HOA := hd (fun W (h : Below W0.heap.size W0 W) => (ha.later hb0).later h)
  have HOB := hd (fun W (h : Below W0.heap.size W0 W) => (hb.later hb0).later h)
  have HTA := hd ta
  have HTB := hd tb
  have HW := hd hW
  have HBE := hd hb0
  have HBc := hd (Below.refl W0.heap.size W0)
  have uk0 := (HKA.out _ HBc.out).ck
  have vk0 := (HKB.out _ HBc.out).ck
  have uq0 := (HKA.out _ HBc.out).cq
  have vq0 := (HKB.out _ HBc.out).cq
  clear hW hb0 hsz e1 e2 ha hb ta tb
  have Hq := hd hq
  clear hq
  have Ht := hd ht
  clear ht
  have Hn := hd hn
  clear hn
  have Ho := hd ho
  clear ho
  have Hw := hd hw
  clear hw
  go_enter Try.func13, Try.ntmps13
  go_upto_region 1 with fail
  rw [HW.out]
  go_wp2_with (first
    | (go_at_call 31; have _g := Hq; refine Calls.mono (sq_at (HOA.out _ HBc.out) (HOB.out _ HBc.out) HTA.out HTB.out Hq.out) ?_; clear Hq; rintro e w9 ⟨rfl, b9⟩; have HBc := hd (step_b HBc.out b9); clear b9 uq0 vq0 uk0 vk0; have ut0 := (HKA.out _ HBc.out).ct; have vt0 := (HKB.out _ HBc.out).ct)
    | (go_at_call 31; have _g := Ht; refine Calls.mono (st_at (HOA.out _ HBc.out) (HOB.out _ HBc.out) HTA.out HTB.out Ht.out) ?_; clear Ht; rintro e w9 ⟨rfl, b9⟩; have HBc := hd (step_b HBc.out b9); clear b9 ut0 vt0; have uz0 := (HKA.out _ HBc.out).cz; have vz0 := (HKB.out _ HBc.out).cz; obtain ⟨un0, un1, un2, un3⟩ := (HKA.out _ HBc.out).cn; obtain ⟨vn0, vn1, vn2, vn3⟩ := (HKB.out _ HBc.out).cn)
    | (go_at_call 24; have _g := Hn; refine Calls.mono (sn_at (HOA.out _ HBc.out) (HOB.out _ HBc.out) Hn.out) ?_; clear Hn; rintro e w9 ⟨rfl, b9⟩; have HBc := hd (step_b HBc.out b9); clear b9 un0 un1 un2 un3 vn0 vn1 vn2 vn3 uz0 vz0; have uo0 := (HKA.out _ HBc.out).co; have vo0 := (HKB.out _ HBc.out).co)
    | (go_at_call 32; have _g := Ho; refine Calls.mono (so_at (HOA.out _ HBc.out) (HOB.out _ HBc.out) Ho.out) ?_; clear Ho; rintro e w9 ⟨rfl, b9⟩; have HBc := hd (step_b HBc.out b9); clear b9 uo0 vo0; have uw0 := (HKA.out _ HBc.out).cw; have vw0 := (HKB.out _ HBc.out).cw)
    | (go_at_call 32; have _g := Hw; refine Calls.mono (sw_at (HOA.out _ HBc.out) (HOB.out _ HBc.out) Hw.out) ?_; clear Hw; rintro e w9 ⟨rfl, b9⟩; have HBc := hd (step_b HBc.out b9); clear b9 uw0 vw0; have ux0 := (HKA.out _ HBc.out).cx; have vx0 := (HKB.out _ HBc.out).cx))
  go_ret
  exact ⟨rfl, HBE.out.trans (HBc.out.mono HBE.out.size)⟩
set_option maxRecDepth 100000 in
set_option maxHeartbeats 4000000 in
theorem bsame_7 (w : World) (c d : OC) (a b : OpP) (ha : OkA w c a) (hb : OkA w d b) (ta : Tiny a) (tb : Tiny b) (hk : (c.k == d.k) = true) (hq : samI a.q b.q = true) (ht : samI a.t b.t = true) (hz : (c.z == d.z) = true) (hn : eqT a.n b.n = true) (ho : decide (a.o = b.o) = true) (hw : decide (a.w = b.w) = true) (hx : sameL a.x b.x = false) : Calls Try.prog 13 #[.agg c.row, .agg d.row] w (Still (.bool false) w) := by
  obtain ⟨W0, hW, hb0, hsz, e1, e2⟩ := two_ops w c d
  have HKA := hd (fun W (h : Below W0.heap.size W0 W) => e1.keep h)
  have HKB := hd (fun W (h : Below W0.heap.size W0 W) => e2.keep h)
  have HOA := hd (fun W (h : Below W0.heap.size W0 W) => (ha.later hb0).later h)
  have HOB := hd (fun W (h : Below W0.heap.size W0 W) => (hb.later hb0).later h)
  have HTA := hd ta
  have HTB := hd tb
  have HW := hd hW
  have HBE := hd hb0
  have HBc := hd (Below.refl W0.heap.size W0)
  have uk0 := (HKA.out _ HBc.out).ck
  have vk0 := (HKB.out _ HBc.out).ck
  have uq0 := (HKA.out _ HBc.out).cq
  have vq0 := (HKB.out _ HBc.out).cq
  clear hW hb0 hsz e1 e2 ha hb ta tb
  have Hq := hd hq
  clear hq
  have Ht := hd ht
  clear ht
  have Hn := hd hn
  clear hn
  have Ho := hd ho
  clear ho
  have Hw := hd hw
  clear hw
  have Hx := hd hx
  clear hx
  go_enter Try.func13, Try.ntmps13
  go_upto_region 1 with fail
  rw [HW.out]
  go_wp2_with (first
    | (go_at_call 31; have _g := Hq; refine Calls.mono (sq_at (HOA.out _ HBc.out) (HOB.out _ HBc.out) HTA.out HTB.out Hq.out) ?_; clear Hq; rintro e w9 ⟨rfl, b9⟩; have HBc := hd (step_b HBc.out b9); clear b9 uq0 vq0 uk0 vk0; have ut0 := (HKA.out _ HBc.out).ct; have vt0 := (HKB.out _ HBc.out).ct)
    | (go_at_call 31; have _g := Ht; refine Calls.mono (st_at (HOA.out _ HBc.out) (HOB.out _ HBc.out) HTA.out HTB.out Ht.out) ?_; clear Ht; rintro e w9 ⟨rfl, b9⟩; have HBc := hd (step_b HBc.out b9); clear b9 ut0 vt0; have uz0 := (HKA.out _ HBc.out).cz; have vz0 := (HKB.out _ HBc.out).cz; obtain ⟨un0, un1, un2, un3⟩ := (HKA.out _ HBc.out).cn; obtain ⟨vn0, vn1, vn2, vn3⟩ := (HKB.out _ HBc.out).cn)
    | (go_at_call 24; have _g := Hn; refine Calls.mono (sn_at (HOA.out _ HBc.out) (HOB.out _ HBc.out) Hn.out) ?_; clear Hn; rintro e w9 ⟨rfl, b9⟩; have HBc := hd (step_b HBc.out b9); clear b9 un0 un1 un2 un3 vn0 vn1 vn2 vn3 uz0 vz0; have uo0 := (HKA.out _ HBc.out).co; have vo0 := (HKB.out _ HBc.out).co)
    | (go_at_call 32; have _g := Ho; refine Calls.mono (so_at (HOA.out _ HBc.out) (HOB.out _ HBc.out) Ho.out) ?_; clear Ho; rintro e w9 ⟨rfl, b9⟩; have HBc := hd (step_b HBc.out b9); clear b9 uo0 vo0; have uw0 := (HKA.out _ HBc.out).cw; have vw0 := (HKB.out _ HBc.out).cw)
    | (go_at_call 32; have _g := Hw; refine Calls.mono (sw_at (HOA.out _ HBc.out) (HOB.out _ HBc.out) Hw.out) ?_; clear Hw; rintro e w9 ⟨rfl, b9⟩; have HBc := hd (step_b HBc.out b9); clear b9 uw0 vw0; have ux0 := (HKA.out _ HBc.out).cx; have vx0 := (HKB.out _ HBc.out).cx)
    | (go_at_call 33; have _g := Hx; refine Calls.mono (sx_at (HOA.out _ HBc.out) (HOB.out _ HBc.out) Hx.out) ?_; clear Hx; rintro e w9 ⟨rfl, b9⟩; have HBc := hd (step_b HBc.out b9); clear b9 ux0 vx0; obtain ⟨uf0, uf1, uf2, uf3, uf4⟩ := (HKA.out _ HBc.out).cf; obtain ⟨vf0, vf1, vf2, vf3, vf4⟩ := (HKB.out _ HBc.out).cf))
  go_ret
  exact ⟨rfl, HBE.out.trans (HBc.out.mono HBE.out.size)⟩
set_option maxRecDepth 100000 in
set_option maxHeartbeats 4000000 in
theorem bsame_8 (w : World) (c d : OC) (a b : OpP) (ha : OkA w c a) (hb : OkA w d b) (ta : Tiny a) (tb : Tiny b) (hk : (c.k == d.k) = true) (hq : samI a.q b.q = true) (ht : samI a.t b.t = true) (hz : (c.z == d.z) = true) (hn : eqT a.n b.n = true) (ho : decide (a.o = b.o) = true) (hw : decide (a.w = b.w) = true) (hx : sameL a.x b.x = true) (hf : samS a.f b.f = false) : Calls Try.prog 13 #[.agg c.row, .agg d.row] w (Still (.bool false) w) := by
  obtain ⟨W0, hW, hb0, hsz, e1, e2⟩ := two_ops w c d
  have HKA := hd (fun W (h : Below W0.heap.size W0 W) => e1.keep h)
  have HKB := hd (fun W (h : Below W0.heap.size W0 W) => e2.keep h)
  have HOA := hd (fun W (h : Below W0.heap.size W0 W) => (ha.later hb0).later h)
  have HOB := hd (fun W (h : Below W0.heap.size W0 W) => (hb.later hb0).later h)
  have HTA := hd ta
  have HTB := hd tb
  have HW := hd hW
  have HBE := hd hb0
  have HBc := hd (Below.refl W0.heap.size W0)
  have uk0 := (HKA.out _ HBc.out).ck
  have vk0 := (HKB.out _ HBc.out).ck
  have uq0 := (HKA.out _ HBc.out).cq
  have vq0 := (HKB.out _ HBc.out).cq
  clear hW hb0 hsz e1 e2 ha hb ta tb
  have Hq := hd hq
  clear hq
  have Ht := hd ht
  clear ht
  have Hn := hd hn
  clear hn
  have Ho := hd ho
  clear ho
  have Hw := hd hw
  clear hw
  have Hx := hd hx
  clear hx
  have Hf := hd hf
  clear hf
  go_enter Try.func13, Try.ntmps13
  go_upto_region 1 with fail
  rw [HW.out]
  go_wp2_with (first
    | (go_at_call 31; have _g := Hq; refine Calls.mono (sq_at (HOA.out _ HBc.out) (HOB.out _ HBc.out) HTA.out HTB.out Hq.out) ?_; clear Hq; rintro e w9 ⟨rfl, b9⟩; have HBc := hd (step_b HBc.out b9); clear b9 uq0 vq0 uk0 vk0; have ut0 := (HKA.out _ HBc.out).ct; have vt0 := (HKB.out _ HBc.out).ct)
    | (go_at_call 31; have _g := Ht; refine Calls.mono (st_at (HOA.out _ HBc.out) (HOB.out _ HBc.out) HTA.out HTB.out Ht.out) ?_; clear Ht; rintro e w9 ⟨rfl, b9⟩; have HBc := hd (step_b HBc.out b9); clear b9 ut0 vt0; have uz0 := (HKA.out _ HBc.out).cz; have vz0 := (HKB.out _ HBc.out).cz; obtain ⟨un0, un1, un2, un3⟩ := (HKA.out _ HBc.out).cn; obtain ⟨vn0, vn1, vn2, vn3⟩ := (HKB.out _ HBc.out).cn)
    | (go_at_call 24; have _g := Hn; refine Calls.mono (sn_at (HOA.out _ HBc.out) (HOB.out _ HBc.out) Hn.out) ?_; clear Hn; rintro e w9 ⟨rfl, b9⟩; have HBc := hd (step_b HBc.out b9); clear b9 un0 un1 un2 un3 vn0 vn1 vn2 vn3 uz0 vz0; have uo0 := (HKA.out _ HBc.out).co; have vo0 := (HKB.out _ HBc.out).co)
    | (go_at_call 32; have _g := Ho; refine Calls.mono (so_at (HOA.out _ HBc.out) (HOB.out _ HBc.out) Ho.out) ?_; clear Ho; rintro e w9 ⟨rfl, b9⟩; have HBc := hd (step_b HBc.out b9); clear b9 uo0 vo0; have uw0 := (HKA.out _ HBc.out).cw; have vw0 := (HKB.out _ HBc.out).cw)
    | (go_at_call 32; have _g := Hw; refine Calls.mono (sw_at (HOA.out _ HBc.out) (HOB.out _ HBc.out) Hw.out) ?_; clear Hw; rintro e w9 ⟨rfl, b9⟩; have HBc := hd (step_b HBc.out b9); clear b9 uw0 vw0; have ux0 := (HKA.out _ HBc.out).cx; have vx0 := (HKB.out _ HBc.out).cx)
    | (go_at_call 33; have _g := Hx; refine Calls.mono (sx_at (HOA.out _ HBc.out) (HOB.out _ HBc.out) Hx.out) ?_; clear Hx; rintro e w9 ⟨rfl, b9⟩; have HBc := hd (step_b HBc.out b9); clear b9 ux0 vx0; obtain ⟨uf0, uf1, uf2, uf3, uf4⟩ := (HKA.out _ HBc.out).cf; obtain ⟨vf0, vf1, vf2, vf3, vf4⟩ := (HKB.out _ HBc.out).cf)
    | (go_at_call 34; have _g := Hf; refine Calls.mono (sf_at (HOA.out _ HBc.out) (HOB.out _ HBc.out) HTA.out HTB.out Hf.out) ?_; clear Hf; rintro e w9 ⟨rfl, b9⟩; have HBc := hd (step_b HBc.out b9); clear b9 uf0 uf1 uf2 uf3 uf4 vf0 vf1 vf2 vf3 vf4; obtain ⟨ug0, ug1, ug2, ug3, ug4⟩ := (HKA.out _ HBc.out).cg; obtain ⟨vg0, vg1, vg2, vg3, vg4⟩ := (HKB.out _ HBc.out).cg))
  go_ret
  exact ⟨rfl, HBE.out.trans (HBc.out.mono HBE.out.size)⟩
set_option maxRecDepth 100000 in
set_option maxHeartbeats 4000000 in
theorem bsame_9 (w : World) (c d : OC) (a b : OpP) (ha : OkA w c a) (hb : OkA w d b) (ta : Tiny a) (tb : Tiny b) (hk : (c.k == d.k) = true) (hq : samI a.q b.q = true) (ht : samI a.t b.t = true) (hz : (c.z == d.z) = true) (hn : eqT a.n b.n = true) (ho : decide (a.o = b.o) = true) (hw : decide (a.w = b.w) = true) (hx : sameL a.x b.x = true) (hf : samS a.f b.f = true) (hg : samS a.g b.g = false) : Calls Try.prog 13 #[.agg c.row, .agg d.row] w (Still (.bool false) w) := by
  obtain ⟨W0, hW, hb0, hsz, e1, e2⟩ := two_ops w c d
  have HKA := hd (fun W (h : Below W0.heap.size W0 W) => e1.keep h)
  have HKB := hd (fun W (h : Below W0.heap.size W0 W) => e2.keep h)
  have HOA := hd (fun W (h : Below W0.heap.size W0 W) => (ha.later hb0).later h)
  have HOB := hd (fun W (h : Below W0.heap.size W0 W) => (hb.later hb0).later h)
  have HTA := hd ta
  have HTB := hd tb
  have HW := hd hW
  have HBE := hd hb0
  have HBc := hd (Below.refl W0.heap.size W0)
  have uk0 := (HKA.out _ HBc.out).ck
  have vk0 := (HKB.out _ HBc.out).ck
  have uq0 := (HKA.out _ HBc.out).cq
  have vq0 := (HKB.out _ HBc.out).cq
  clear hW hb0 hsz e1 e2 ha hb ta tb
  have Hq := hd hq
  clear hq
  have Ht := hd ht
  clear ht
  have Hn := hd hn
  clear hn
  have Ho := hd ho
  clear ho
  have Hw := hd hw
  clear hw
  have Hx := hd hx
  clear hx
  have Hf := hd hf
  clear hf
  have Hg := hd hg
  clear hg
  go_enter Try.func13, Try.ntmps13
  go_upto_region 1 with fail
  rw [HW.out]
  go_wp2_with (first
    | (go_at_call 31; have _g := Hq; refine Calls.mono (sq_at (HOA.out _ HBc.out) (HOB.out _ HBc.out) HTA.out HTB.out Hq.out) ?_; clear Hq; rintro e w9 ⟨rfl, b9⟩; have HBc := hd (step_b HBc.out b9); clear b9 uq0 vq0 uk0 vk0; have ut0 := (HKA.out _ HBc.out).ct; have vt0 := (HKB.out _ HBc.out).ct)
    | (go_at_call 31; have _g := Ht; refine Calls.mono (st_at (HOA.out _ HBc.out) (HOB.out _ HBc.out) HTA.out HTB.out Ht.out) ?_; clear Ht; rintro e w9 ⟨rfl, b9⟩; have HBc := hd (step_b HBc.out b9); clear b9 ut0 vt0; have uz0 := (HKA.out _ HBc.out).cz; have vz0 := (HKB.out _ HBc.out).cz; obtain ⟨un0, un1, un2, un3⟩ := (HKA.out _ HBc.out).cn; obtain ⟨vn0, vn1, vn2, vn3⟩ := (HKB.out _ HBc.out).cn)
    | (go_at_call 24; have _g := Hn; refine Calls.mono (sn_at (HOA.out _ HBc.out) (HOB.out _ HBc.out) Hn.out) ?_; clear Hn; rintro e w9 ⟨rfl, b9⟩; have HBc := hd (step_b HBc.out b9); clear b9 un0 un1 un2 un3 vn0 vn1 vn2 vn3 uz0 vz0; have uo0 := (HKA.out _ HBc.out).co; have vo0 := (HKB.out _ HBc.out).co)
    | (go_at_call 32; have _g := Ho; refine Calls.mono (so_at (HOA.out _ HBc.out) (HOB.out _ HBc.out) Ho.out) ?_; clear Ho; rintro e w9 ⟨rfl, b9⟩; have HBc := hd (step_b HBc.out b9); clear b9 uo0 vo0; have uw0 := (HKA.out _ HBc.out).cw; have vw0 := (HKB.out _ HBc.out).cw)
    | (go_at_call 32; have _g := Hw; refine Calls.mono (sw_at (HOA.out _ HBc.out) (HOB.out _ HBc.out) Hw.out) ?_; clear Hw; rintro e w9 ⟨rfl, b9⟩; have HBc := hd (step_b HBc.out b9); clear b9 uw0 vw0; have ux0 := (HKA.out _ HBc.out).cx; have vx0 := (HKB.out _ HBc.out).cx)
    | (go_at_call 33; have _g := Hx; refine Calls.mono (sx_at (HOA.out _ HBc.out) (HOB.out _ HBc.out) Hx.out) ?_; clear Hx; rintro e w9 ⟨rfl, b9⟩; have HBc := hd (step_b HBc.out b9); clear b9 ux0 vx0; obtain ⟨uf0, uf1, uf2, uf3, uf4⟩ := (HKA.out _ HBc.out).cf; obtain ⟨vf0, vf1, vf2, vf3, vf4⟩ := (HKB.out _ HBc.out).cf)
    | (go_at_call 34; have _g := Hf; refine Calls.mono (sf_at (HOA.out _ HBc.out) (HOB.out _ HBc.out) HTA.out HTB.out Hf.out) ?_; clear Hf; rintro e w9 ⟨rfl, b9⟩; have HBc := hd (step_b HBc.out b9); clear b9 uf0 uf1 uf2 uf3 uf4 vf0 vf1 vf2 vf3 vf4; obtain ⟨ug0, ug1, ug2, ug3, ug4⟩ := (HKA.out _ HBc.out).cg; obtain ⟨vg0, vg1, vg2, vg3, vg4⟩ := (HKB.out _ HBc.out).cg)
    | (go_at_call 34; have _g := Hg; refine Calls.mono (sg_at (HOA.out _ HBc.out) (HOB.out _ HBc.out) HTA.out HTB.out Hg.out) ?_; clear Hg; rintro e w9 ⟨rfl, b9⟩; have HBc := hd (step_b HBc.out b9); clear b9 ug0 ug1 ug2 ug3 ug4 vg0 vg1 vg2 vg3 vg4))
  go_ret
  exact ⟨rfl, HBE.out.trans (HBc.out.mono HBE.out.size)⟩
set_option maxRecDepth 100000 in
set_option maxHeartbeats 4000000 in
theorem bsame_10 (w : World) (c d : OC) (a b : OpP) (ha : OkA w c a) (hb : OkA w d b) (ta : Tiny a) (tb : Tiny b) (hk : (c.k == d.k) = true) (hq : samI a.q b.q = true) (ht : samI a.t b.t = true) (hz : (c.z == d.z) = true) (hn : eqT a.n b.n = true) (ho : decide (a.o = b.o) = true) (hw : decide (a.w = b.w) = true) (hx : sameL a.x b.x = true) (hf : samS a.f b.f = true) (hg : samS a.g b.g = true) : Calls Try.prog 13 #[.agg c.row, .agg d.row] w (Still (.bool true) w) := by
  obtain ⟨W0, hW, hb0, hsz, e1, e2⟩ := two_ops w c d
  have HKA := hd (fun W (h : Below W0.heap.size W0 W) => e1.keep h)
  have HKB := hd (fun W (h : Below W0.heap.size W0 W) => e2.keep h)
  have HOA := hd (fun W (h : Below W0.heap.size W0 W) => (ha.later hb0).later h)
  have HOB := hd (fun W (h : Below W0.heap.size W0 W) => (hb.later hb0).later h)
  have HTA := hd ta
  have HTB := hd tb
  have HW := hd hW
  have HBE := hd hb0
  have HBc := hd (Below.refl W0.heap.size W0)
  have uk0 := (HKA.out _ HBc.out).ck
  have vk0 := (HKB.out _ HBc.out).ck
  have uq0 := (HKA.out _ HBc.out).cq
  have vq0 := (HKB.out _ HBc.out).cq
  clear hW hb0 hsz e1 e2 ha hb ta tb
  have Hq := hd hq
  clear hq
  have Ht := hd ht
  clear ht
  have Hn := hd hn
  clear hn
  have Ho := hd ho
  clear ho
  have Hw := hd hw
  clear hw
  have Hx := hd hx
  clear hx
  have Hf := hd hf
  clear hf
  have Hg := hd hg
  clear hg
  go_enter Try.func13, Try.ntmps13
  go_upto_region 1 with fail
  rw [HW.out]
  go_wp2_with (first
    | (go_at_call 31; have _g := Hq; refine Calls.mono (sq_at (HOA.out _ HBc.out) (HOB.out _ HBc.out) HTA.out HTB.out Hq.out) ?_; clear Hq; rintro e w9 ⟨rfl, b9⟩; have HBc := hd (step_b HBc.out b9); clear b9 uq0 vq0 uk0 vk0; have ut0 := (HKA.out _ HBc.out).ct; have vt0 := (HKB.out _ HBc.out).ct)
    | (go_at_call 31; have _g := Ht; refine Calls.mono (st_at (HOA.out _ HBc.out) (HOB.out _ HBc.out) HTA.out HTB.out Ht.out) ?_; clear Ht; rintro e w9 ⟨rfl, b9⟩; have HBc := hd (step_b HBc.out b9); clear b9 ut0 vt0; have uz0 := (HKA.out _ HBc.out).cz; have vz0 := (HKB.out _ HBc.out).cz; obtain ⟨un0, un1, un2, un3⟩ := (HKA.out _ HBc.out).cn; obtain ⟨vn0, vn1, vn2, vn3⟩ := (HKB.out _ HBc.out).cn)
    | (go_at_call 24; have _g := Hn; refine Calls.mono (sn_at (HOA.out _ HBc.out) (HOB.out _ HBc.out) Hn.out) ?_; clear Hn; rintro e w9 ⟨rfl, b9⟩; have HBc := hd (step_b HBc.out b9); clear b9 un0 un1 un2 un3 vn0 vn1 vn2 vn3 uz0 vz0; have uo0 := (HKA.out _ HBc.out).co; have vo0 := (HKB.out _ HBc.out).co)
    | (go_at_call 32; have _g := Ho; refine Calls.mono (so_at (HOA.out _ HBc.out) (HOB.out _ HBc.out) Ho.out) ?_; clear Ho; rintro e w9 ⟨rfl, b9⟩; have HBc := hd (step_b HBc.out b9); clear b9 uo0 vo0; have uw0 := (HKA.out _ HBc.out).cw; have vw0 := (HKB.out _ HBc.out).cw)
    | (go_at_call 32; have _g := Hw; refine Calls.mono (sw_at (HOA.out _ HBc.out) (HOB.out _ HBc.out) Hw.out) ?_; clear Hw; rintro e w9 ⟨rfl, b9⟩; have HBc := hd (step_b HBc.out b9); clear b9 uw0 vw0; have ux0 := (HKA.out _ HBc.out).cx; have vx0 := (HKB.out _ HBc.out).cx)
    | (go_at_call 33; have _g := Hx; refine Calls.mono (sx_at (HOA.out _ HBc.out) (HOB.out _ HBc.out) Hx.out) ?_; clear Hx; rintro e w9 ⟨rfl, b9⟩; have HBc := hd (step_b HBc.out b9); clear b9 ux0 vx0; obtain ⟨uf0, uf1, uf2, uf3, uf4⟩ := (HKA.out _ HBc.out).cf; obtain ⟨vf0, vf1, vf2, vf3, vf4⟩ := (HKB.out _ HBc.out).cf)
    | (go_at_call 34; have _g := Hf; refine Calls.mono (sf_at (HOA.out _ HBc.out) (HOB.out _ HBc.out) HTA.out HTB.out Hf.out) ?_; clear Hf; rintro e w9 ⟨rfl, b9⟩; have HBc := hd (step_b HBc.out b9); clear b9 uf0 uf1 uf2 uf3 uf4 vf0 vf1 vf2 vf3 vf4; obtain ⟨ug0, ug1, ug2, ug3, ug4⟩ := (HKA.out _ HBc.out).cg; obtain ⟨vg0, vg1, vg2, vg3, vg4⟩ := (HKB.out _ HBc.out).cg)
    | (go_at_call 34; have _g := Hg; refine Calls.mono (sg_at (HOA.out _ HBc.out) (HOB.out _ HBc.out) HTA.out HTB.out Hg.out) ?_; clear Hg; rintro e w9 ⟨rfl, b9⟩; have HBc := hd (step_b HBc.out b9); clear b9 ug0 ug1 ug2 ug3 ug4 vg0 vg1 vg2 vg3 vg4))
  go_ret
  exact ⟨rfl, HBE.out.trans (HBc.out.mono HBE.out.size)⟩
set_option maxRecDepth 4000 in
theorem rsameop_at {w : World} {c d : OC} {a b : OpP} {E : Bool} (ha : OkA w c a) (hb : OkA w d b) (ta : Tiny a) (tb : Tiny b) (hE : eqO a b = E) : Calls Try.prog 13 #[.agg c.row, .agg d.row] w (Still (.bool E) w) := by
  subst hE
  rw [eqO_parts, ha.hk, hb.hk, ha.hz, hb.hz]
  cases hk : (c.k == d.k)
  · have h := bsame_0 w c d a b ha hb ta tb  hk
    simpa [hk] using h
  cases hq : samI a.q b.q
  · have h := bsame_1 w c d a b ha hb ta tb hk hq
    simpa [hk, hq] using h
  cases ht : samI a.t b.t
  · have h := bsame_2 w c d a b ha hb ta tb hk hq ht
    simpa [hk, hq, ht] using h
  cases hz : (c.z == d.z)
  · have h := bsame_3 w c d a b ha hb ta tb hk hq ht hz
    simpa [hk, hq, ht, hz] using h
  cases hn : eqT a.n b.n
  · have h := bsame_4 w c d a b ha hb ta tb hk hq ht hz hn
    simpa [hk, hq, ht, hz, hn] using h
  cases ho : decide (a.o = b.o)
  · have h := bsame_5 w c d a b ha hb ta tb hk hq ht hz hn ho
    simpa [hk, hq, ht, hz, hn, ho] using h
  cases hw : decide (a.w = b.w)
  · have h := bsame_6 w c d a b ha hb ta tb hk hq ht hz hn ho hw
    simpa [hk, hq, ht, hz, hn, ho, hw] using h
  cases hx : sameL a.x b.x
  · have h := bsame_7 w c d a b ha hb ta tb hk hq ht hz hn ho hw hx
    simpa [hk, hq, ht, hz, hn, ho, hw, hx] using h
  cases hf : samS a.f b.f
  · have h := bsame_8 w c d a b ha hb ta tb hk hq ht hz hn ho hw hx hf
    simpa [hk, hq, ht, hz, hn, ho, hw, hx, hf] using h
  cases hg : samS a.g b.g
  · have h := bsame_9 w c d a b ha hb ta tb hk hq ht hz hn ho hw hx hf hg
    simpa [hk, hq, ht, hz, hn, ho, hw, hx, hf, hg] using h
  have h := bsame_10 w c d a b ha hb ta tb hk hq ht hz hn ho hw hx hf hg
  simpa using h

end Go.Proofs.Ytdjajpookmmafaa
