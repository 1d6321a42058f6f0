import Derived.Test.YtablflakcaimmaaGreatUS10
namespace Go.Proofs.YtablflakcaimmaaGreat
section
set_option linter.unusedVariables false
set_option maxRecDepth 100000
theorem quad_all (inv : Bool) (t0 t1 t2 t3 : Gi) : nq (quadSum inv 0 t0 t1 t2 t3) + nq (quadSum inv 1 t0 t1 t2 t3) + nq (quadSum inv 2 t0 t1 t2 t3) + nq (quadSum inv 3 t0 t1 t2 t3) = 4 * (nq t0 + nq t1 + nq t2 + nq t3) := by
 obtain ⟨a, b⟩ := t0
 obtain ⟨c, d⟩ := t1
 obtain ⟨e, f⟩ := t2
 obtain ⟨g, h⟩ := t3
 cases inv <;>
 ·simp [quadSum, gadd, Gi.turn, turns1, nq]
  grind
theorem two_low15_0 (a b w : Gi) (mo V : Int) (hm : mo = 0 ∨ mo = 1 ∨ mo = 2) (hv : V ≤ 1073741824) (h : V ≤ nq a ∨ V ≤ nq b) (ha : nq a ≤ 134217728) (hb : nq b ≤ 134217728) (w0 : 67059721 ≤ nq w) (w1 : nq w ≤ 67158025) :
 V ≤ 1 * (nq (pairUp 13 0 mo a b w) + 262144) ∨ V ≤ 1 * (nq (pairDown 13 0 mo a b w) + 262144) := by
 have n0 := nq_nonneg a
 have n1 := nq_nonneg b
 have n2 := nq_nonneg w
 have hbw : nq b * nq w ≤ 134217728 * 67158025 := Int.mul_le_mul hb w1 n2 (by decide)
 have hbl : nq b * 67059721 ≤ nq b * nq w := Int.mul_le_mul_of_nonneg_left w0 n1
 have hs := nq_both (gscale 13 a) (gmul b w)
 have hu := nq_nonneg (gadd (gscale 13 a) (gmul b w))
 have hd := nq_nonneg (gles (gscale 13 a) (gmul b w))
 rw [nq_scale, nq_mul] at hs
 rw [show (2 : Int) ^ 13 = 8192 by decide] at hs
 have ku := (grnd_nq (gadd (gscale 13 a) (gmul b w)) (13 + 0) mo 32768 0 hm (by decide) (by rw [show (2 : Int) ^ (13 + 0) = 8192 by decide]; omega)).2
 have kd := (grnd_nq (gles (gscale 13 a) (gmul b w)) (13 + 0) mo 32768 0 hm (by decide) (by rw [show (2 : Int) ^ (13 + 0) = 8192 by decide]; omega)).2
 rw [show (2 : Int) ^ (13 + 0) = 8192 by decide] at ku kd
 have e1 : pairUp 13 0 mo a b w = grnd (13 + 0) mo (gadd (gscale 13 a) (gmul b w)) := rfl
 have e2 : pairDown 13 0 mo a b w = grnd (13 + 0) mo (gles (gscale 13 a) (gmul b w)) := rfl
 rw [e1, e2]
 generalize nq (grnd (13 + 0) mo (gadd (gscale 13 a) (gmul b w))) = yu at *
 generalize nq (grnd (13 + 0) mo (gles (gscale 13 a) (gmul b w))) = yd at *
 generalize nq (gadd (gscale 13 a) (gmul b w)) = zu at *
 generalize nq (gles (gscale 13 a) (gmul b w)) = zd at *
 generalize nq b * nq w = bw at *
 omega
theorem two_low15_1 (a b w : Gi) (mo V : Int) (hm : mo = 0 ∨ mo = 1 ∨ mo = 2) (hv : V ≤ 1073741824) (h : V ≤ nq a ∨ V ≤ nq b) (ha : nq a ≤ 536870912) (hb : nq b ≤ 536870912) (w0 : 67059721 ≤ nq w) (w1 : nq w ≤ 67158025) :
 V ≤ 4 * (nq (pairUp 13 1 mo a b w) + 262144) ∨ V ≤ 4 * (nq (pairDown 13 1 mo a b w) + 262144) := by
 have n0 := nq_nonneg a
 have n1 := nq_nonneg b
 have n2 := nq_nonneg w
 have hbw : nq b * nq w ≤ 536870912 * 67158025 := Int.mul_le_mul hb w1 n2 (by decide)
 have hbl : nq b * 67059721 ≤ nq b * nq w := Int.mul_le_mul_of_nonneg_left w0 n1
 have hs := nq_both (gscale 13 a) (gmul b w)
 have hu := nq_nonneg (gadd (gscale 13 a) (gmul b w))
 have hd := nq_nonneg (gles (gscale 13 a) (gmul b w))
 rw [nq_scale, nq_mul] at hs
 rw [show (2 : Int) ^ 13 = 8192 by decide] at hs
 have ku := (grnd_nq (gadd (gscale 13 a) (gmul b w)) (13 + 1) mo 32768 0 hm (by decide) (by rw [show (2 : Int) ^ (13 + 1) = 16384 by decide]; omega)).2
 have kd := (grnd_nq (gles (gscale 13 a) (gmul b w)) (13 + 1) mo 32768 0 hm (by decide) (by rw [show (2 : Int) ^ (13 + 1) = 16384 by decide]; omega)).2
 rw [show (2 : Int) ^ (13 + 1) = 16384 by decide] at ku kd
 have e1 : pairUp 13 1 mo a b w = grnd (13 + 1) mo (gadd (gscale 13 a) (gmul b w)) := rfl
 have e2 : pairDown 13 1 mo a b w = grnd (13 + 1) mo (gles (gscale 13 a) (gmul b w)) := rfl
 rw [e1, e2]
 generalize nq (grnd (13 + 1) mo (gadd (gscale 13 a) (gmul b w))) = yu at *
 generalize nq (grnd (13 + 1) mo (gles (gscale 13 a) (gmul b w))) = yd at *
 generalize nq (gadd (gscale 13 a) (gmul b w)) = zu at *
 generalize nq (gles (gscale 13 a) (gmul b w)) = zd at *
 generalize nq b * nq w = bw at *
 omega
theorem two_low15_2 (a b w : Gi) (mo V : Int) (hm : mo = 0 ∨ mo = 1 ∨ mo = 2) (hv : V ≤ 1073741824) (h : V ≤ nq a ∨ V ≤ nq b) (ha : nq a ≤ 2147483648) (hb : nq b ≤ 2147483648) (w0 : 67059721 ≤ nq w) (w1 : nq w ≤ 67158025) :
 V ≤ 16 * (nq (pairUp 13 2 mo a b w) + 262144) ∨ V ≤ 16 * (nq (pairDown 13 2 mo a b w) + 262144) := by
 have n0 := nq_nonneg a
 have n1 := nq_nonneg b
 have n2 := nq_nonneg w
 have hbw : nq b * nq w ≤ 2147483648 * 67158025 := Int.mul_le_mul hb w1 n2 (by decide)
 have hbl : nq b * 67059721 ≤ nq b * nq w := Int.mul_le_mul_of_nonneg_left w0 n1
 have hs := nq_both (gscale 13 a) (gmul b w)
 have hu := nq_nonneg (gadd (gscale 13 a) (gmul b w))
 have hd := nq_nonneg (gles (gscale 13 a) (gmul b w))
 rw [nq_scale, nq_mul] at hs
 rw [show (2 : Int) ^ 13 = 8192 by decide] at hs
 have ku := (grnd_nq (gadd (gscale 13 a) (gmul b w)) (13 + 2) mo 32768 0 hm (by decide) (by rw [show (2 : Int) ^ (13 + 2) = 32768 by decide]; omega)).2
 have kd := (grnd_nq (gles (gscale 13 a) (gmul b w)) (13 + 2) mo 32768 0 hm (by decide) (by rw [show (2 : Int) ^ (13 + 2) = 32768 by decide]; omega)).2
 rw [show (2 : Int) ^ (13 + 2) = 32768 by decide] at ku kd
 have e1 : pairUp 13 2 mo a b w = grnd (13 + 2) mo (gadd (gscale 13 a) (gmul b w)) := rfl
 have e2 : pairDown 13 2 mo a b w = grnd (13 + 2) mo (gles (gscale 13 a) (gmul b w)) := rfl
 rw [e1, e2]
 generalize nq (grnd (13 + 2) mo (gadd (gscale 13 a) (gmul b w))) = yu at *
 generalize nq (grnd (13 + 2) mo (gles (gscale 13 a) (gmul b w))) = yd at *
 generalize nq (gadd (gscale 13 a) (gmul b w)) = zu at *
 generalize nq (gles (gscale 13 a) (gmul b w)) = zd at *
 generalize nq b * nq w = bw at *
 omega
theorem two_low31_0 (a b w : Gi) (mo V : Int) (hm : mo = 0 ∨ mo = 1 ∨ mo = 2) (hv : V ≤ 4611686018427387904) (h : V ≤ nq a ∨ V ≤ nq b) (ha : nq a ≤ 576460752303423488) (hb : nq b ≤ 576460752303423488) (w0 : 288230372930486281 ≤ nq w) (w1 : nq w ≤ 288230379372937225) :
 V ≤ 1 * (nq (pairUp 29 0 mo a b w) + 1125899906842624) ∨ V ≤ 1 * (nq (pairDown 29 0 mo a b w) + 1125899906842624) := by
 have n0 := nq_nonneg a
 have n1 := nq_nonneg b
 have n2 := nq_nonneg w
 have hbw : nq b * nq w ≤ 576460752303423488 * 288230379372937225 := Int.mul_le_mul hb w1 n2 (by decide)
 have hbl : nq b * 288230372930486281 ≤ nq b * nq w := Int.mul_le_mul_of_nonneg_left w0 n1
 have hs := nq_both (gscale 29 a) (gmul b w)
 have hu := nq_nonneg (gadd (gscale 29 a) (gmul b w))
 have hd := nq_nonneg (gles (gscale 29 a) (gmul b w))
 rw [nq_scale, nq_mul] at hs
 rw [show (2 : Int) ^ 29 = 536870912 by decide] at hs
 have ku := (grnd_nq (gadd (gscale 29 a) (gmul b w)) (29 + 0) mo 2147483648 0 hm (by decide) (by rw [show (2 : Int) ^ (29 + 0) = 536870912 by decide]; omega)).2
 have kd := (grnd_nq (gles (gscale 29 a) (gmul b w)) (29 + 0) mo 2147483648 0 hm (by decide) (by rw [show (2 : Int) ^ (29 + 0) = 536870912 by decide]; omega)).2
 rw [show (2 : Int) ^ (29 + 0) = 536870912 by decide] at ku kd
 have e1 : pairUp 29 0 mo a b w = grnd (29 + 0) mo (gadd (gscale 29 a) (gmul b w)) := rfl
 have e2 : pairDown 29 0 mo a b w = grnd (29 + 0) mo (gles (gscale 29 a) (gmul b w)) := rfl
 rw [e1, e2]
 generalize nq (grnd (29 + 0) mo (gadd (gscale 29 a) (gmul b w))) = yu at *
 generalize nq (grnd (29 + 0) mo (gles (gscale 29 a) (gmul b w))) = yd at *
 generalize nq (gadd (gscale 29 a) (gmul b w)) = zu at *
 generalize nq (gles (gscale 29 a) (gmul b w)) = zd at *
 generalize nq b * nq w = bw at *
 omega
theorem two_low31_1 (a b w : Gi) (mo V : Int) (hm : mo = 0 ∨ mo = 1 ∨ mo = 2) (hv : V ≤ 4611686018427387904) (h : V ≤ nq a ∨ V ≤ nq b) (ha : nq a ≤ 2305843009213693952) (hb : nq b ≤ 2305843009213693952) (w0 : 288230372930486281 ≤ nq w) (w1 : nq w ≤ 288230379372937225) :
 V ≤ 4 * (nq (pairUp 29 1 mo a b w) + 1125899906842624) ∨ V ≤ 4 * (nq (pairDown 29 1 mo a b w) + 1125899906842624) := by
 have n0 := nq_nonneg a
 have n1 := nq_nonneg b
 have n2 := nq_nonneg w
 have hbw : nq b * nq w ≤ 2305843009213693952 * 288230379372937225 := Int.mul_le_mul hb w1 n2 (by decide)
 have hbl : nq b * 288230372930486281 ≤ nq b * nq w := Int.mul_le_mul_of_nonneg_left w0 n1
 have hs := nq_both (gscale 29 a) (gmul b w)
 have hu := nq_nonneg (gadd (gscale 29 a) (gmul b w))
 have hd := nq_nonneg (gles (gscale 29 a) (gmul b w))
 rw [nq_scale, nq_mul] at hs
 rw [show (2 : Int) ^ 29 = 536870912 by decide] at hs
 have ku := (grnd_nq (gadd (gscale 29 a) (gmul b w)) (29 + 1) mo 2147483648 0 hm (by decide) (by rw [show (2 : Int) ^ (29 + 1) = 1073741824 by decide]; omega)).2
 have kd := (grnd_nq (gles (gscale 29 a) (gmul b w)) (29 + 1) mo 2147483648 0 hm (by decide) (by rw [show (2 : Int) ^ (29 + 1) = 1073741824 by decide]; omega)).2
 rw [show (2 : Int) ^ (29 + 1) = 1073741824 by decide] at ku kd
 have e1 : pairUp 29 1 mo a b w = grnd (29 + 1) mo (gadd (gscale 29 a) (gmul b w)) := rfl
 have e2 : pairDown 29 1 mo a b w = grnd (29 + 1) mo (gles (gscale 29 a) (gmul b w)) := rfl
 rw [e1, e2]
 generalize nq (grnd (29 + 1) mo (gadd (gscale 29 a) (gmul b w))) = yu at *
 generalize nq (grnd (29 + 1) mo (gles (gscale 29 a) (gmul b w))) = yd at *
 generalize nq (gadd (gscale 29 a) (gmul b w)) = zu at *
 generalize nq (gles (gscale 29 a) (gmul b w)) = zd at *
 generalize nq b * nq w = bw at *
 omega
theorem two_low31_2 (a b w : Gi) (mo V : Int) (hm : mo = 0 ∨ mo = 1 ∨ mo = 2) (hv : V ≤ 4611686018427387904) (h : V ≤ nq a ∨ V ≤ nq b) (ha : nq a ≤ 9223372036854775808) (hb : nq b ≤ 9223372036854775808) (w0 : 288230372930486281 ≤ nq w) (w1 : nq w ≤ 288230379372937225) :
 V ≤ 16 * (nq (pairUp 29 2 mo a b w) + 1125899906842624) ∨ V ≤ 16 * (nq (pairDown 29 2 mo a b w) + 1125899906842624) := by
 have n0 := nq_nonneg a
 have n1 := nq_nonneg b
 have n2 := nq_nonneg w
 have hbw : nq b * nq w ≤ 9223372036854775808 * 288230379372937225 := Int.mul_le_mul hb w1 n2 (by decide)
 have hbl : nq b * 288230372930486281 ≤ nq b * nq w := Int.mul_le_mul_of_nonneg_left w0 n1
 have hs := nq_both (gscale 29 a) (gmul b w)
 have hu := nq_nonneg (gadd (gscale 29 a) (gmul b w))
 have hd := nq_nonneg (gles (gscale 29 a) (gmul b w))
 rw [nq_scale, nq_mul] at hs
 rw [show (2 : Int) ^ 29 = 536870912 by decide] at hs
 have ku := (grnd_nq (gadd (gscale 29 a) (gmul b w)) (29 + 2) mo 2147483648 0 hm (by decide) (by rw [show (2 : Int) ^ (29 + 2) = 2147483648 by decide]; omega)).2
 have kd := (grnd_nq (gles (gscale 29 a) (gmul b w)) (29 + 2) mo 2147483648 0 hm (by decide) (by rw [show (2 : Int) ^ (29 + 2) = 2147483648 by decide]; omega)).2
 rw [show (2 : Int) ^ (29 + 2) = 2147483648 by decide] at ku kd
 have e1 : pairUp 29 2 mo a b w = grnd (29 + 2) mo (gadd (gscale 29 a) (gmul b w)) := rfl
 have e2 : pairDown 29 2 mo a b w = grnd (29 + 2) mo (gles (gscale 29 a) (gmul b w)) := rfl
 rw [e1, e2]
 generalize nq (grnd (29 + 2) mo (gadd (gscale 29 a) (gmul b w))) = yu at *
 generalize nq (grnd (29 + 2) mo (gles (gscale 29 a) (gmul b w))) = yd at *
 generalize nq (gadd (gscale 29 a) (gmul b w)) = zu at *
 generalize nq (gles (gscale 29 a) (gmul b w)) = zd at *
 generalize nq b * nq w = bw at *
 omega
theorem four_low15_0 (inv : Bool) (a0 a1 a2 a3 w1 w2 w3 : Gi) (mo V : Int) (hm : mo = 0 ∨ mo = 1 ∨ mo = 2) (h : V ≤ nq a0 ∨ V ≤ nq a1 ∨ V ≤ nq a2 ∨ V ≤ nq a3) (h0 : nq a0 ≤ 33554432) (h1 : nq a1 ≤ 33554432) (h2 : nq a2 ≤ 33554432) (h3 : nq a3 ≤ 33554432)
 (u1 : 67059721 ≤ nq w1) (v1 : nq w1 ≤ 67158025) (u2 : 67059721 ≤ nq w2) (v2 : nq w2 ≤ 67158025) (u3 : 67059721 ≤ nq w3) (v3 : nq w3 ≤ 67158025) :
 V ≤ 1 * (nq (quadOut 13 0 mo inv 0 a0 a1 a2 a3 w1 w2 w3) + 262144) ∨ V ≤ 1 * (nq (quadOut 13 0 mo inv 1 a0 a1 a2 a3 w1 w2 w3) + 262144) ∨ V ≤ 1 * (nq (quadOut 13 0 mo inv 2 a0 a1 a2 a3 w1 w2 w3) + 262144) ∨ V ≤ 1 * (nq (quadOut 13 0 mo inv 3 a0 a1 a2 a3 w1 w2 w3) + 262144) := by
 have m0 := nq_nonneg a0
 have m1 := nq_nonneg a1
 have m2 := nq_nonneg a2
 have m3 := nq_nonneg a3
 have b1 : nq a1 * nq w1 ≤ 33554432 * 67158025 := Int.mul_le_mul h1 v1 (nq_nonneg w1) (by decide)
 have b2 : nq a2 * nq w2 ≤ 33554432 * 67158025 := Int.mul_le_mul h2 v2 (nq_nonneg w2) (by decide)
 have b3 : nq a3 * nq w3 ≤ 33554432 * 67158025 := Int.mul_le_mul h3 v3 (nq_nonneg w3) (by decide)
 have l1 : nq a1 * 67059721 ≤ nq a1 * nq w1 := Int.mul_le_mul_of_nonneg_left u1 m1
 have l2 : nq a2 * 67059721 ≤ nq a2 * nq w2 := Int.mul_le_mul_of_nonneg_left u2 m2
 have l3 : nq a3 * 67059721 ≤ nq a3 * nq w3 := Int.mul_le_mul_of_nonneg_left u3 m3
 have hs := quad_all inv (gscale 13 a0) (gmul a1 w1) (gmul a2 w2) (gmul a3 w3)
 obtain ⟨S, hS⟩ : ∃ S, nq (gscale 13 a0) + nq (gmul a1 w1) + nq (gmul a2 w2) + nq (gmul a3 w3) = S := ⟨_, rfl⟩
 have hV : V ≤ 33554432 ∧ V * 67059721 ≤ S ∧ S ≤ 9012147963035648 := by
  rw [nq_scale, nq_mul, nq_mul, nq_mul, show (2 : Int) ^ 13 = 8192 by decide] at hS
  clear hs
  generalize nq a1 * nq w1 = c1 at *
  generalize nq a2 * nq w2 = c2 at *
  generalize nq a3 * nq w3 = c3 at *
  generalize nq a0 = x0 at *
  generalize nq a1 = x1 at *
  generalize nq a2 = x2 at *
  generalize nq a3 = x3 at *
  clear u1 v1 u2 v2 u3 v3
  rcases h with h | h | h | h
  ·exact ⟨by omega, by omega, by omega⟩
  ·exact ⟨by omega, by omega, by omega⟩
  ·exact ⟨by omega, by omega, by omega⟩
  ·exact ⟨by omega, by omega, by omega⟩
 clear h h0 h1 h2 h3 u1 v1 u2 v2 u3 v3 b1 b2 b3 l1 l2 l3 m0 m1 m2 m3
 obtain ⟨hv1, hv2, hv3⟩ := hV
 rw [hS] at hs
 have hc : S ≤ nq (quadSum inv 0 (gscale 13 a0) (gmul a1 w1) (gmul a2 w2) (gmul a3 w3)) ∨ S ≤ nq (quadSum inv 1 (gscale 13 a0) (gmul a1 w1) (gmul a2 w2) (gmul a3 w3)) ∨ S ≤ nq (quadSum inv 2 (gscale 13 a0) (gmul a1 w1) (gmul a2 w2) (gmul a3 w3)) ∨ S ≤ nq (quadSum inv 3 (gscale 13 a0) (gmul a1 w1) (gmul a2 w2) (gmul a3 w3)) := by omega
 rcases hc with hc | hc | hc | hc
 ·have k := (grnd_nq (quadSum inv 0 (gscale 13 a0) (gmul a1 w1) (gmul a2 w2) (gmul a3 w3)) (13 + 0) mo 32768 0 hm (by decide) (by
   have hz := quad_nq inv 0 (gscale 13 a0) (gmul a1 w1) (gmul a2 w2) (gmul a3 w3)
   rw [show (2 : Int) ^ (13 + 0) = 8192 by decide]
   omega)).2
  rw [show (2 : Int) ^ (13 + 0) = 8192 by decide] at k
  have goal : V ≤ 1 * (nq (quadOut 13 0 mo inv 0 a0 a1 a2 a3 w1 w2 w3) + 262144) := by
   unfold quadOut
   generalize nq (grnd (13 + 0) mo (quadSum inv 0 (gscale 13 a0) (gmul a1 w1) (gmul a2 w2) (gmul a3 w3))) = y at *
   clear hs
   omega
  exact .inl goal
 ·have k := (grnd_nq (quadSum inv 1 (gscale 13 a0) (gmul a1 w1) (gmul a2 w2) (gmul a3 w3)) (13 + 0) mo 32768 0 hm (by decide) (by
   have hz := quad_nq inv 1 (gscale 13 a0) (gmul a1 w1) (gmul a2 w2) (gmul a3 w3)
   rw [show (2 : Int) ^ (13 + 0) = 8192 by decide]
   omega)).2
  rw [show (2 : Int) ^ (13 + 0) = 8192 by decide] at k
  have goal : V ≤ 1 * (nq (quadOut 13 0 mo inv 1 a0 a1 a2 a3 w1 w2 w3) + 262144) := by
   unfold quadOut
   generalize nq (grnd (13 + 0) mo (quadSum inv 1 (gscale 13 a0) (gmul a1 w1) (gmul a2 w2) (gmul a3 w3))) = y at *
   clear hs
   omega
  exact .inr (.inl goal)
 ·have k := (grnd_nq (quadSum inv 2 (gscale 13 a0) (gmul a1 w1) (gmul a2 w2) (gmul a3 w3)) (13 + 0) mo 32768 0 hm (by decide) (by
   have hz := quad_nq inv 2 (gscale 13 a0) (gmul a1 w1) (gmul a2 w2) (gmul a3 w3)
   rw [show (2 : Int) ^ (13 + 0) = 8192 by decide]
   omega)).2
  rw [show (2 : Int) ^ (13 + 0) = 8192 by decide] at k
  have goal : V ≤ 1 * (nq (quadOut 13 0 mo inv 2 a0 a1 a2 a3 w1 w2 w3) + 262144) := by
   unfold quadOut
   generalize nq (grnd (13 + 0) mo (quadSum inv 2 (gscale 13 a0) (gmul a1 w1) (gmul a2 w2) (gmul a3 w3))) = y at *
   clear hs
   omega
  exact .inr (.inr (.inl goal))
 ·have k := (grnd_nq (quadSum inv 3 (gscale 13 a0) (gmul a1 w1) (gmul a2 w2) (gmul a3 w3)) (13 + 0) mo 32768 0 hm (by decide) (by
   have hz := quad_nq inv 3 (gscale 13 a0) (gmul a1 w1) (gmul a2 w2) (gmul a3 w3)
   rw [show (2 : Int) ^ (13 + 0) = 8192 by decide]
   omega)).2
  rw [show (2 : Int) ^ (13 + 0) = 8192 by decide] at k
  have goal : V ≤ 1 * (nq (quadOut 13 0 mo inv 3 a0 a1 a2 a3 w1 w2 w3) + 262144) := by
   unfold quadOut
   generalize nq (grnd (13 + 0) mo (quadSum inv 3 (gscale 13 a0) (gmul a1 w1) (gmul a2 w2) (gmul a3 w3))) = y at *
   clear hs
   omega
  exact .inr (.inr (.inr goal))
theorem four_low15_1 (inv : Bool) (a0 a1 a2 a3 w1 w2 w3 : Gi) (mo V : Int) (hm : mo = 0 ∨ mo = 1 ∨ mo = 2) (h : V ≤ nq a0 ∨ V ≤ nq a1 ∨ V ≤ nq a2 ∨ V ≤ nq a3) (h0 : nq a0 ≤ 134217728) (h1 : nq a1 ≤ 134217728) (h2 : nq a2 ≤ 134217728) (h3 : nq a3 ≤ 134217728)
 (u1 : 67059721 ≤ nq w1) (v1 : nq w1 ≤ 67158025) (u2 : 67059721 ≤ nq w2) (v2 : nq w2 ≤ 67158025) (u3 : 67059721 ≤ nq w3) (v3 : nq w3 ≤ 67158025) :
 V ≤ 4 * (nq (quadOut 13 1 mo inv 0 a0 a1 a2 a3 w1 w2 w3) + 262144) ∨ V ≤ 4 * (nq (quadOut 13 1 mo inv 1 a0 a1 a2 a3 w1 w2 w3) + 262144) ∨ V ≤ 4 * (nq (quadOut 13 1 mo inv 2 a0 a1 a2 a3 w1 w2 w3) + 262144) ∨ V ≤ 4 * (nq (quadOut 13 1 mo inv 3 a0 a1 a2 a3 w1 w2 w3) + 262144) := by
 have m0 := nq_nonneg a0
 have m1 := nq_nonneg a1
 have m2 := nq_nonneg a2
 have m3 := nq_nonneg a3
 have b1 : nq a1 * nq w1 ≤ 134217728 * 67158025 := Int.mul_le_mul h1 v1 (nq_nonneg w1) (by decide)
 have b2 : nq a2 * nq w2 ≤ 134217728 * 67158025 := Int.mul_le_mul h2 v2 (nq_nonneg w2) (by decide)
 have b3 : nq a3 * nq w3 ≤ 134217728 * 67158025 := Int.mul_le_mul h3 v3 (nq_nonneg w3) (by decide)
 have l1 : nq a1 * 67059721 ≤ nq a1 * nq w1 := Int.mul_le_mul_of_nonneg_left u1 m1
 have l2 : nq a2 * 67059721 ≤ nq a2 * nq w2 := Int.mul_le_mul_of_nonneg_left u2 m2
 have l3 : nq a3 * 67059721 ≤ nq a3 * nq w3 := Int.mul_le_mul_of_nonneg_left u3 m3
 have hs := quad_all inv (gscale 13 a0) (gmul a1 w1) (gmul a2 w2) (gmul a3 w3)
 obtain ⟨S, hS⟩ : ∃ S, nq (gscale 13 a0) + nq (gmul a1 w1) + nq (gmul a2 w2) + nq (gmul a3 w3) = S := ⟨_, rfl⟩
 have hV : V ≤ 134217728 ∧ V * 67059721 ≤ S ∧ S ≤ 36048591852142592 := by
  rw [nq_scale, nq_mul, nq_mul, nq_mul, show (2 : Int) ^ 13 = 8192 by decide] at hS
  clear hs
  generalize nq a1 * nq w1 = c1 at *
  generalize nq a2 * nq w2 = c2 at *
  generalize nq a3 * nq w3 = c3 at *
  generalize nq a0 = x0 at *
  generalize nq a1 = x1 at *
  generalize nq a2 = x2 at *
  generalize nq a3 = x3 at *
  clear u1 v1 u2 v2 u3 v3
  rcases h with h | h | h | h
  ·exact ⟨by omega, by omega, by omega⟩
  ·exact ⟨by omega, by omega, by omega⟩
  ·exact ⟨by omega, by omega, by omega⟩
  ·exact ⟨by omega, by omega, by omega⟩
 clear h h0 h1 h2 h3 u1 v1 u2 v2 u3 v3 b1 b2 b3 l1 l2 l3 m0 m1 m2 m3
 obtain ⟨hv1, hv2, hv3⟩ := hV
 rw [hS] at hs
 have hc : S ≤ nq (quadSum inv 0 (gscale 13 a0) (gmul a1 w1) (gmul a2 w2) (gmul a3 w3)) ∨ S ≤ nq (quadSum inv 1 (gscale 13 a0) (gmul a1 w1) (gmul a2 w2) (gmul a3 w3)) ∨ S ≤ nq (quadSum inv 2 (gscale 13 a0) (gmul a1 w1) (gmul a2 w2) (gmul a3 w3)) ∨ S ≤ nq (quadSum inv 3 (gscale 13 a0) (gmul a1 w1) (gmul a2 w2) (gmul a3 w3)) := by omega
 rcases hc with hc | hc | hc | hc
 ·have k := (grnd_nq (quadSum inv 0 (gscale 13 a0) (gmul a1 w1) (gmul a2 w2) (gmul a3 w3)) (13 + 1) mo 32768 0 hm (by decide) (by
   have hz := quad_nq inv 0 (gscale 13 a0) (gmul a1 w1) (gmul a2 w2) (gmul a3 w3)
   rw [show (2 : Int) ^ (13 + 1) = 16384 by decide]
   omega)).2
  rw [show (2 : Int) ^ (13 + 1) = 16384 by decide] at k
  have goal : V ≤ 4 * (nq (quadOut 13 1 mo inv 0 a0 a1 a2 a3 w1 w2 w3) + 262144) := by
   unfold quadOut
   generalize nq (grnd (13 + 1) mo (quadSum inv 0 (gscale 13 a0) (gmul a1 w1) (gmul a2 w2) (gmul a3 w3))) = y at *
   clear hs
   omega
  exact .inl goal
 ·have k := (grnd_nq (quadSum inv 1 (gscale 13 a0) (gmul a1 w1) (gmul a2 w2) (gmul a3 w3)) (13 + 1) mo 32768 0 hm (by decide) (by
   have hz := quad_nq inv 1 (gscale 13 a0) (gmul a1 w1) (gmul a2 w2) (gmul a3 w3)
   rw [show (2 : Int) ^ (13 + 1) = 16384 by decide]
   omega)).2
  rw [show (2 : Int) ^ (13 + 1) = 16384 by decide] at k
  have goal : V ≤ 4 * (nq (quadOut 13 1 mo inv 1 a0 a1 a2 a3 w1 w2 w3) + 262144) := by
   unfold quadOut
   generalize nq (grnd (13 + 1) mo (quadSum inv 1 (gscale 13 a0) (gmul a1 w1) (gmul a2 w2) (gmul a3 w3))) = y at *
   clear hs
   omega
  exact .inr (.inl goal)
 ·have k := (grnd_nq (quadSum inv 2 (gscale 13 a0) (gmul a1 w1) (gmul a2 w2) (gmul a3 w3)) (13 + 1) mo 32768 0 hm (by decide) (by
   have hz := quad_nq inv 2 (gscale 13 a0) (gmul a1 w1) (gmul a2 w2) (gmul a3 w3)
   rw [show (2 : Int) ^ (13 + 1) = 16384 by decide]
   omega)).2
  rw [show (2 : Int) ^ (13 + 1) = 16384 by decide] at k
  have goal : V ≤ 4 * (nq (quadOut 13 1 mo inv 2 a0 a1 a2 a3 w1 w2 w3) + 262144) := by
   unfold quadOut
   generalize nq (grnd (13 + 1) mo (quadSum inv 2 (gscale 13 a0) (gmul a1 w1) (gmul a2 w2) (gmul a3 w3))) = y at *
   clear hs
   omega
  exact .inr (.inr (.inl goal))
 ·have k := (grnd_nq (quadSum inv 3 (gscale 13 a0) (gmul a1 w1) (gmul a2 w2) (gmul a3 w3)) (13 + 1) mo 32768 0 hm (by decide) (by
   have hz := quad_nq inv 3 (gscale 13 a0) (gmul a1 w1) (gmul a2 w2) (gmul a3 w3)
   rw [show (2 : Int) ^ (13 + 1) = 16384 by decide]
   omega)).2
  rw [show (2 : Int) ^ (13 + 1) = 16384 by decide] at k
  have goal : V ≤ 4 * (nq (quadOut 13 1 mo inv 3 a0 a1 a2 a3 w1 w2 w3) + 262144) := by
   unfold quadOut
   generalize nq (grnd (13 + 1) mo (quadSum inv 3 (gscale 13 a0) (gmul a1 w1) (gmul a2 w2) (gmul a3 w3))) = y at *
   clear hs
   omega
  exact .inr (.inr (.inr goal))
theorem four_low15_2 (inv : Bool) (a0 a1 a2 a3 w1 w2 w3 : Gi) (mo V : Int) (hm : mo = 0 ∨ mo = 1 ∨ mo = 2) (h : V ≤ nq a0 ∨ V ≤ nq a1 ∨ V ≤ nq a2 ∨ V ≤ nq a3) (h0 : nq a0 ≤ 536870912) (h1 : nq a1 ≤ 536870912) (h2 : nq a2 ≤ 536870912) (h3 : nq a3 ≤ 536870912)
 (u1 : 67059721 ≤ nq w1) (v1 : nq w1 ≤ 67158025) (u2 : 67059721 ≤ nq w2) (v2 : nq w2 ≤ 67158025) (u3 : 67059721 ≤ nq w3) (v3 : nq w3 ≤ 67158025) :
 V ≤ 16 * (nq (quadOut 13 2 mo inv 0 a0 a1 a2 a3 w1 w2 w3) + 262144) ∨ V ≤ 16 * (nq (quadOut 13 2 mo inv 1 a0 a1 a2 a3 w1 w2 w3) + 262144) ∨ V ≤ 16 * (nq (quadOut 13 2 mo inv 2 a0 a1 a2 a3 w1 w2 w3) + 262144) ∨ V ≤ 16 * (nq (quadOut 13 2 mo inv 3 a0 a1 a2 a3 w1 w2 w3) + 262144) := by
 have m0 := nq_nonneg a0
 have m1 := nq_nonneg a1
 have m2 := nq_nonneg a2
 have m3 := nq_nonneg a3
 have b1 : nq a1 * nq w1 ≤ 536870912 * 67158025 := Int.mul_le_mul h1 v1 (nq_nonneg w1) (by decide)
 have b2 : nq a2 * nq w2 ≤ 536870912 * 67158025 := Int.mul_le_mul h2 v2 (nq_nonneg w2) (by decide)
 have b3 : nq a3 * nq w3 ≤ 536870912 * 67158025 := Int.mul_le_mul h3 v3 (nq_nonneg w3) (by decide)
 have l1 : nq a1 * 67059721 ≤ nq a1 * nq w1 := Int.mul_le_mul_of_nonneg_left u1 m1
 have l2 : nq a2 * 67059721 ≤ nq a2 * nq w2 := Int.mul_le_mul_of_nonneg_left u2 m2
 have l3 : nq a3 * 67059721 ≤ nq a3 * nq w3 := Int.mul_le_mul_of_nonneg_left u3 m3
 have hs := quad_all inv (gscale 13 a0) (gmul a1 w1) (gmul a2 w2) (gmul a3 w3)
 obtain ⟨S, hS⟩ : ∃ S, nq (gscale 13 a0) + nq (gmul a1 w1) + nq (gmul a2 w2) + nq (gmul a3 w3) = S := ⟨_, rfl⟩
 have hV : V ≤ 536870912 ∧ V * 67059721 ≤ S ∧ S ≤ 144194367408570368 := by
  rw [nq_scale, nq_mul, nq_mul, nq_mul, show (2 : Int) ^ 13 = 8192 by decide] at hS
  clear hs
  generalize nq a1 * nq w1 = c1 at *
  generalize nq a2 * nq w2 = c2 at *
  generalize nq a3 * nq w3 = c3 at *
  generalize nq a0 = x0 at *
  generalize nq a1 = x1 at *
  generalize nq a2 = x2 at *
  generalize nq a3 = x3 at *
  clear u1 v1 u2 v2 u3 v3
  rcases h with h | h | h | h
  ·exact ⟨by omega, by omega, by omega⟩
  ·exact ⟨by omega, by omega, by omega⟩
  ·exact ⟨by omega, by omega, by omega⟩
  ·exact ⟨by omega, by omega, by omega⟩
 clear h h0 h1 h2 h3 u1 v1 u2 v2 u3 v3 b1 b2 b3 l1 l2 l3 m0 m1 m2 m3
 obtain ⟨hv1, hv2, hv3⟩ := hV
 rw [hS] at hs
 have hc : S ≤ nq (quadSum inv 0 (gscale 13 a0) (gmul a1 w1) (gmul a2 w2) (gmul a3 w3)) ∨ S ≤ nq (quadSum inv 1 (gscale 13 a0) (gmul a1 w1) (gmul a2 w2) (gmul a3 w3)) ∨ S ≤ nq (quadSum inv 2 (gscale 13 a0) (gmul a1 w1) (gmul a2 w2) (gmul a3 w3)) ∨ S ≤ nq (quadSum inv 3 (gscale 13 a0) (gmul a1 w1) (gmul a2 w2) (gmul a3 w3)) := by omega
 rcases hc with hc | hc | hc | hc
 ·have k := (grnd_nq (quadSum inv 0 (gscale 13 a0) (gmul a1 w1) (gmul a2 w2) (gmul a3 w3)) (13 + 2) mo 32768 0 hm (by decide) (by
   have hz := quad_nq inv 0 (gscale 13 a0) (gmul a1 w1) (gmul a2 w2) (gmul a3 w3)
   rw [show (2 : Int) ^ (13 + 2) = 32768 by decide]
   omega)).2
  rw [show (2 : Int) ^ (13 + 2) = 32768 by decide] at k
  have goal : V ≤ 16 * (nq (quadOut 13 2 mo inv 0 a0 a1 a2 a3 w1 w2 w3) + 262144) := by
   unfold quadOut
   generalize nq (grnd (13 + 2) mo (quadSum inv 0 (gscale 13 a0) (gmul a1 w1) (gmul a2 w2) (gmul a3 w3))) = y at *
   clear hs
   omega
  exact .inl goal
 ·have k := (grnd_nq (quadSum inv 1 (gscale 13 a0) (gmul a1 w1) (gmul a2 w2) (gmul a3 w3)) (13 + 2) mo 32768 0 hm (by decide) (by
   have hz := quad_nq inv 1 (gscale 13 a0) (gmul a1 w1) (gmul a2 w2) (gmul a3 w3)
   rw [show (2 : Int) ^ (13 + 2) = 32768 by decide]
   omega)).2
  rw [show (2 : Int) ^ (13 + 2) = 32768 by decide] at k
  have goal : V ≤ 16 * (nq (quadOut 13 2 mo inv 1 a0 a1 a2 a3 w1 w2 w3) + 262144) := by
   unfold quadOut
   generalize nq (grnd (13 + 2) mo (quadSum inv 1 (gscale 13 a0) (gmul a1 w1) (gmul a2 w2) (gmul a3 w3))) = y at *
   clear hs
   omega
  exact .inr (.inl goal)
 ·have k := (grnd_nq (quadSum inv 2 (gscale 13 a0) (gmul a1 w1) (gmul a2 w2) (gmul a3 w3)) (13 + 2) mo 32768 0 hm (by decide) (by
   have hz := quad_nq inv 2 (gscale 13 a0) (gmul a1 w1) (gmul a2 w2) (gmul a3 w3)
   rw [show (2 : Int) ^ (13 + 2) = 32768 by decide]
   omega)).2
  rw [show (2 : Int) ^ (13 + 2) = 32768 by decide] at k
  have goal : V ≤ 16 * (nq (quadOut 13 2 mo inv 2 a0 a1 a2 a3 w1 w2 w3) + 262144) := by
   unfold quadOut
   generalize nq (grnd (13 + 2) mo (quadSum inv 2 (gscale 13 a0) (gmul a1 w1) (gmul a2 w2) (gmul a3 w3))) = y at *
   clear hs
   omega
  exact .inr (.inr (.inl goal))
 ·have k := (grnd_nq (quadSum inv 3 (gscale 13 a0) (gmul a1 w1) (gmul a2 w2) (gmul a3 w3)) (13 + 2) mo 32768 0 hm (by decide) (by
   have hz := quad_nq inv 3 (gscale 13 a0) (gmul a1 w1) (gmul a2 w2) (gmul a3 w3)
   rw [show (2 : Int) ^ (13 + 2) = 32768 by decide]
   omega)).2
  rw [show (2 : Int) ^ (13 + 2) = 32768 by decide] at k
  have goal : V ≤ 16 * (nq (quadOut 13 2 mo inv 3 a0 a1 a2 a3 w1 w2 w3) + 262144) := by
   unfold quadOut
   generalize nq (grnd (13 + 2) mo (quadSum inv 3 (gscale 13 a0) (gmul a1 w1) (gmul a2 w2) (gmul a3 w3))) = y at *
   clear hs
   omega
  exact .inr (.inr (.inr goal))
theorem four_low15_3 (inv : Bool) (a0 a1 a2 a3 w1 w2 w3 : Gi) (mo V : Int) (hm : mo = 0 ∨ mo = 1 ∨ mo = 2) (h : V ≤ nq a0 ∨ V ≤ nq a1 ∨ V ≤ nq a2 ∨ V ≤ nq a3) (h0 : nq a0 ≤ 2147483648) (h1 : nq a1 ≤ 2147483648) (h2 : nq a2 ≤ 2147483648) (h3 : nq a3 ≤ 2147483648)
 (u1 : 67059721 ≤ nq w1) (v1 : nq w1 ≤ 67158025) (u2 : 67059721 ≤ nq w2) (v2 : nq w2 ≤ 67158025) (u3 : 67059721 ≤ nq w3) (v3 : nq w3 ≤ 67158025) :
 V ≤ 64 * (nq (quadOut 13 3 mo inv 0 a0 a1 a2 a3 w1 w2 w3) + 262144) ∨ V ≤ 64 * (nq (quadOut 13 3 mo inv 1 a0 a1 a2 a3 w1 w2 w3) + 262144) ∨ V ≤ 64 * (nq (quadOut 13 3 mo inv 2 a0 a1 a2 a3 w1 w2 w3) + 262144) ∨ V ≤ 64 * (nq (quadOut 13 3 mo inv 3 a0 a1 a2 a3 w1 w2 w3) + 262144) := by
 have m0 := nq_nonneg a0
 have m1 := nq_nonneg a1
 have m2 := nq_nonneg a2
 have m3 := nq_nonneg a3
 have b1 : nq a1 * nq w1 ≤ 2147483648 * 67158025 := Int.mul_le_mul h1 v1 (nq_nonneg w1) (by decide)
 have b2 : nq a2 * nq w2 ≤ 2147483648 * 67158025 := Int.mul_le_mul h2 v2 (nq_nonneg w2) (by decide)
 have b3 : nq a3 * nq w3 ≤ 2147483648 * 67158025 := Int.mul_le_mul h3 v3 (nq_nonneg w3) (by decide)
 have l1 : nq a1 * 67059721 ≤ nq a1 * nq w1 := Int.mul_le_mul_of_nonneg_left u1 m1
 have l2 : nq a2 * 67059721 ≤ nq a2 * nq w2 := Int.mul_le_mul_of_nonneg_left u2 m2
 have l3 : nq a3 * 67059721 ≤ nq a3 * nq w3 := Int.mul_le_mul_of_nonneg_left u3 m3
 have hs := quad_all inv (gscale 13 a0) (gmul a1 w1) (gmul a2 w2) (gmul a3 w3)
 obtain ⟨S, hS⟩ : ∃ S, nq (gscale 13 a0) + nq (gmul a1 w1) + nq (gmul a2 w2) + nq (gmul a3 w3) = S := ⟨_, rfl⟩
 have hV : V ≤ 2147483648 ∧ V * 67059721 ≤ S ∧ S ≤ 576777469634281472 := by
  rw [nq_scale, nq_mul, nq_mul, nq_mul, show (2 : Int) ^ 13 = 8192 by decide] at hS
  clear hs
  generalize nq a1 * nq w1 = c1 at *
  generalize nq a2 * nq w2 = c2 at *
  generalize nq a3 * nq w3 = c3 at *
  generalize nq a0 = x0 at *
  generalize nq a1 = x1 at *
  generalize nq a2 = x2 at *
  generalize nq a3 = x3 at *
  clear u1 v1 u2 v2 u3 v3
  rcases h with h | h | h | h
  ·exact ⟨by omega, by omega, by omega⟩
  ·exact ⟨by omega, by omega, by omega⟩
  ·exact ⟨by omega, by omega, by omega⟩
  ·exact ⟨by omega, by omega, by omega⟩
 clear h h0 h1 h2 h3 u1 v1 u2 v2 u3 v3 b1 b2 b3 l1 l2 l3 m0 m1 m2 m3
 obtain ⟨hv1, hv2, hv3⟩ := hV
 rw [hS] at hs
 have hc : S ≤ nq (quadSum inv 0 (gscale 13 a0) (gmul a1 w1) (gmul a2 w2) (gmul a3 w3)) ∨ S ≤ nq (quadSum inv 1 (gscale 13 a0) (gmul a1 w1) (gmul a2 w2) (gmul a3 w3)) ∨ S ≤ nq (quadSum inv 2 (gscale 13 a0) (gmul a1 w1) (gmul a2 w2) (gmul a3 w3)) ∨ S ≤ nq (quadSum inv 3 (gscale 13 a0) (gmul a1 w1) (gmul a2 w2) (gmul a3 w3)) := by omega
 rcases hc with hc | hc | hc | hc
 ·have k := (grnd_nq (quadSum inv 0 (gscale 13 a0) (gmul a1 w1) (gmul a2 w2) (gmul a3 w3)) (13 + 3) mo 32768 0 hm (by decide) (by
   have hz := quad_nq inv 0 (gscale 13 a0) (gmul a1 w1) (gmul a2 w2) (gmul a3 w3)
   rw [show (2 : Int) ^ (13 + 3) = 65536 by decide]
   omega)).2
  rw [show (2 : Int) ^ (13 + 3) = 65536 by decide] at k
  have goal : V ≤ 64 * (nq (quadOut 13 3 mo inv 0 a0 a1 a2 a3 w1 w2 w3) + 262144) := by
   unfold quadOut
   generalize nq (grnd (13 + 3) mo (quadSum inv 0 (gscale 13 a0) (gmul a1 w1) (gmul a2 w2) (gmul a3 w3))) = y at *
   clear hs
   omega
  exact .inl goal
 ·have k := (grnd_nq (quadSum inv 1 (gscale 13 a0) (gmul a1 w1) (gmul a2 w2) (gmul a3 w3)) (13 + 3) mo 32768 0 hm (by decide) (by
   have hz := quad_nq inv 1 (gscale 13 a0) (gmul a1 w1) (gmul a2 w2) (gmul a3 w3)
   rw [show (2 : Int) ^ (13 + 3) = 65536 by decide]
   omega)).2
  rw [show (2 : Int) ^ (13 + 3) = 65536 by decide] at k
  have goal : V ≤ 64 * (nq (quadOut 13 3 mo inv 1 a0 a1 a2 a3 w1 w2 w3) + 262144) := by
   unfold quadOut
   generalize nq (grnd (13 + 3) mo (quadSum inv 1 (gscale 13 a0) (gmul a1 w1) (gmul a2 w2) (gmul a3 w3))) = y at *
   clear hs
   omega
  exact .inr (.inl goal)
 ·have k := (grnd_nq (quadSum inv 2 (gscale 13 a0) (gmul a1 w1) (gmul a2 w2) (gmul a3 w3)) (13 + 3) mo 32768 0 hm (by decide) (by
   have hz := quad_nq inv 2 (gscale 13 a0) (gmul a1 w1) (gmul a2 w2) (gmul a3 w3)
   rw [show (2 : Int) ^ (13 + 3) = 65536 by decide]
   omega)).2
  rw [show (2 : Int) ^ (13 + 3) = 65536 by decide] at k
  have goal : V ≤ 64 * (nq (quadOut 13 3 mo inv 2 a0 a1 a2 a3 w1 w2 w3) + 262144) := by
   unfold quadOut
   generalize nq (grnd (13 + 3) mo (quadSum inv 2 (gscale 13 a0) (gmul a1 w1) (gmul a2 w2) (gmul a3 w3))) = y at *
   clear hs
   omega
  exact .inr (.inr (.inl goal))
 ·have k := (grnd_nq (quadSum inv 3 (gscale 13 a0) (gmul a1 w1) (gmul a2 w2) (gmul a3 w3)) (13 + 3) mo 32768 0 hm (by decide) (by
   have hz := quad_nq inv 3 (gscale 13 a0) (gmul a1 w1) (gmul a2 w2) (gmul a3 w3)
   rw [show (2 : Int) ^ (13 + 3) = 65536 by decide]
   omega)).2
  rw [show (2 : Int) ^ (13 + 3) = 65536 by decide] at k
  have goal : V ≤ 64 * (nq (quadOut 13 3 mo inv 3 a0 a1 a2 a3 w1 w2 w3) + 262144) := by
   unfold quadOut
   generalize nq (grnd (13 + 3) mo (quadSum inv 3 (gscale 13 a0) (gmul a1 w1) (gmul a2 w2) (gmul a3 w3))) = y at *
   clear hs
   omega
  exact .inr (.inr (.inr goal))
theorem four_low31_0 (inv : Bool) (a0 a1 a2 a3 w1 w2 w3 : Gi) (mo V : Int) (hm : mo = 0 ∨ mo = 1 ∨ mo = 2) (h : V ≤ nq a0 ∨ V ≤ nq a1 ∨ V ≤ nq a2 ∨ V ≤ nq a3) (h0 : nq a0 ≤ 144115188075855872) (h1 : nq a1 ≤ 144115188075855872) (h2 : nq a2 ≤ 144115188075855872) (h3 : nq a3 ≤ 144115188075855872)
 (u1 : 288230372930486281 ≤ nq w1) (v1 : nq w1 ≤ 288230379372937225) (u2 : 288230372930486281 ≤ nq w2) (v2 : nq w2 ≤ 288230379372937225) (u3 : 288230372930486281 ≤ nq w3) (v3 : nq w3 ≤ 288230379372937225) :
 V ≤ 1 * (nq (quadOut 29 0 mo inv 0 a0 a1 a2 a3 w1 w2 w3) + 1125899906842624) ∨ V ≤ 1 * (nq (quadOut 29 0 mo inv 1 a0 a1 a2 a3 w1 w2 w3) + 1125899906842624) ∨ V ≤ 1 * (nq (quadOut 29 0 mo inv 2 a0 a1 a2 a3 w1 w2 w3) + 1125899906842624) ∨ V ≤ 1 * (nq (quadOut 29 0 mo inv 3 a0 a1 a2 a3 w1 w2 w3) + 1125899906842624) := by
 have m0 := nq_nonneg a0
 have m1 := nq_nonneg a1
 have m2 := nq_nonneg a2
 have m3 := nq_nonneg a3
 have b1 : nq a1 * nq w1 ≤ 144115188075855872 * 288230379372937225 := Int.mul_le_mul h1 v1 (nq_nonneg w1) (by decide)
 have b2 : nq a2 * nq w2 ≤ 144115188075855872 * 288230379372937225 := Int.mul_le_mul h2 v2 (nq_nonneg w2) (by decide)
 have b3 : nq a3 * nq w3 ≤ 144115188075855872 * 288230379372937225 := Int.mul_le_mul h3 v3 (nq_nonneg w3) (by decide)
 have l1 : nq a1 * 288230372930486281 ≤ nq a1 * nq w1 := Int.mul_le_mul_of_nonneg_left u1 m1
 have l2 : nq a2 * 288230372930486281 ≤ nq a2 * nq w2 := Int.mul_le_mul_of_nonneg_left u2 m2
 have l3 : nq a3 * 288230372930486281 ≤ nq a3 * nq w3 := Int.mul_le_mul_of_nonneg_left u3 m3
 have hs := quad_all inv (gscale 29 a0) (gmul a1 w1) (gmul a2 w2) (gmul a3 w3)
 obtain ⟨S, hS⟩ : ∃ S, nq (gscale 29 a0) + nq (gmul a1 w1) + nq (gmul a2 w2) + nq (gmul a3 w3) = S := ⟨_, rfl⟩
 have hV : V ≤ 144115188075855872 ∧ V * 288230372930486281 ≤ S ∧ S ≤ 166153500865797032200138769844666368 := by
  rw [nq_scale, nq_mul, nq_mul, nq_mul, show (2 : Int) ^ 29 = 536870912 by decide] at hS
  clear hs
  generalize nq a1 * nq w1 = c1 at *
  generalize nq a2 * nq w2 = c2 at *
  generalize nq a3 * nq w3 = c3 at *
  generalize nq a0 = x0 at *
  generalize nq a1 = x1 at *
  generalize nq a2 = x2 at *
  generalize nq a3 = x3 at *
  clear u1 v1 u2 v2 u3 v3
  rcases h with h | h | h | h
  ·exact ⟨by omega, by omega, by omega⟩
  ·exact ⟨by omega, by omega, by omega⟩
  ·exact ⟨by omega, by omega, by omega⟩
  ·exact ⟨by omega, by omega, by omega⟩
 clear h h0 h1 h2 h3 u1 v1 u2 v2 u3 v3 b1 b2 b3 l1 l2 l3 m0 m1 m2 m3
 obtain ⟨hv1, hv2, hv3⟩ := hV
 rw [hS] at hs
 have hc : S ≤ nq (quadSum inv 0 (gscale 29 a0) (gmul a1 w1) (gmul a2 w2) (gmul a3 w3)) ∨ S ≤ nq (quadSum inv 1 (gscale 29 a0) (gmul a1 w1) (gmul a2 w2) (gmul a3 w3)) ∨ S ≤ nq (quadSum inv 2 (gscale 29 a0) (gmul a1 w1) (gmul a2 w2) (gmul a3 w3)) ∨ S ≤ nq (quadSum inv 3 (gscale 29 a0) (gmul a1 w1) (gmul a2 w2) (gmul a3 w3)) := by omega
 rcases hc with hc | hc | hc | hc
 ·have k := (grnd_nq (quadSum inv 0 (gscale 29 a0) (gmul a1 w1) (gmul a2 w2) (gmul a3 w3)) (29 + 0) mo 2147483648 0 hm (by decide) (by
   have hz := quad_nq inv 0 (gscale 29 a0) (gmul a1 w1) (gmul a2 w2) (gmul a3 w3)
   rw [show (2 : Int) ^ (29 + 0) = 536870912 by decide]
   omega)).2
  rw [show (2 : Int) ^ (29 + 0) = 536870912 by decide] at k
  have goal : V ≤ 1 * (nq (quadOut 29 0 mo inv 0 a0 a1 a2 a3 w1 w2 w3) + 1125899906842624) := by
   unfold quadOut
   generalize nq (grnd (29 + 0) mo (quadSum inv 0 (gscale 29 a0) (gmul a1 w1) (gmul a2 w2) (gmul a3 w3))) = y at *
   clear hs
   omega
  exact .inl goal
 ·have k := (grnd_nq (quadSum inv 1 (gscale 29 a0) (gmul a1 w1) (gmul a2 w2) (gmul a3 w3)) (29 + 0) mo 2147483648 0 hm (by decide) (by
   have hz := quad_nq inv 1 (gscale 29 a0) (gmul a1 w1) (gmul a2 w2) (gmul a3 w3)
   rw [show (2 : Int) ^ (29 + 0) = 536870912 by decide]
   omega)).2
  rw [show (2 : Int) ^ (29 + 0) = 536870912 by decide] at k
  have goal : V ≤ 1 * (nq (quadOut 29 0 mo inv 1 a0 a1 a2 a3 w1 w2 w3) + 1125899906842624) := by
   unfold quadOut
   generalize nq (grnd (29 + 0) mo (quadSum inv 1 (gscale 29 a0) (gmul a1 w1) (gmul a2 w2) (gmul a3 w3))) = y at *
   clear hs
   omega
  exact .inr (.inl goal)
 ·have k := (grnd_nq (quadSum inv 2 (gscale 29 a0) (gmul a1 w1) (gmul a2 w2) (gmul a3 w3)) (29 + 0) mo 2147483648 0 hm (by decide) (by
   have hz := quad_nq inv 2 (gscale 29 a0) (gmul a1 w1) (gmul a2 w2) (gmul a3 w3)
   rw [show (2 : Int) ^ (29 + 0) = 536870912 by decide]
   omega)).2
  rw [show (2 : Int) ^ (29 + 0) = 536870912 by decide] at k
  have goal : V ≤ 1 * (nq (quadOut 29 0 mo inv 2 a0 a1 a2 a3 w1 w2 w3) + 1125899906842624) := by
   unfold quadOut
   generalize nq (grnd (29 + 0) mo (quadSum inv 2 (gscale 29 a0) (gmul a1 w1) (gmul a2 w2) (gmul a3 w3))) = y at *
   clear hs
   omega
  exact .inr (.inr (.inl goal))
 ·have k := (grnd_nq (quadSum inv 3 (gscale 29 a0) (gmul a1 w1) (gmul a2 w2) (gmul a3 w3)) (29 + 0) mo 2147483648 0 hm (by decide) (by
   have hz := quad_nq inv 3 (gscale 29 a0) (gmul a1 w1) (gmul a2 w2) (gmul a3 w3)
   rw [show (2 : Int) ^ (29 + 0) = 536870912 by decide]
   omega)).2
  rw [show (2 : Int) ^ (29 + 0) = 536870912 by decide] at k
  have goal : V ≤ 1 * (nq (quadOut 29 0 mo inv 3 a0 a1 a2 a3 w1 w2 w3) + 1125899906842624) := by
   unfold quadOut
   generalize nq (grnd (29 + 0) mo (quadSum inv 3 (gscale 29 a0) (gmul a1 w1) (gmul a2 w2) (gmul a3 w3))) = y at *
   clear hs
   omega
  exact .inr (.inr (.inr goal))
theorem four_low31_1 (inv : Bool) (a0 a1 a2 a3 w1 w2 w3 : Gi) (mo V : Int) (hm : mo = 0 ∨ mo = 1 ∨ mo = 2) (h : V ≤ nq a0 ∨ V ≤ nq a1 ∨ V ≤ nq a2 ∨ V ≤ nq a3) (h0 : nq a0 ≤ 576460752303423488) (h1 : nq a1 ≤ 576460752303423488) (h2 : nq a2 ≤ 576460752303423488) (h3 : nq a3 ≤ 576460752303423488)
 (u1 : 288230372930486281 ≤ nq w1) (v1 : nq w1 ≤ 288230379372937225) (u2 : 288230372930486281 ≤ nq w2) (v2 : nq w2 ≤ 288230379372937225) (u3 : 288230372930486281 ≤ nq w3) (v3 : nq w3 ≤ 288230379372937225) :
 V ≤ 4 * (nq (quadOut 29 1 mo inv 0 a0 a1 a2 a3 w1 w2 w3) + 1125899906842624) ∨ V ≤ 4 * (nq (quadOut 29 1 mo inv 1 a0 a1 a2 a3 w1 w2 w3) + 1125899906842624) ∨ V ≤ 4 * (nq (quadOut 29 1 mo inv 2 a0 a1 a2 a3 w1 w2 w3) + 1125899906842624) ∨ V ≤ 4 * (nq (quadOut 29 1 mo inv 3 a0 a1 a2 a3 w1 w2 w3) + 1125899906842624) := by
 have m0 := nq_nonneg a0
 have m1 := nq_nonneg a1
 have m2 := nq_nonneg a2
 have m3 := nq_nonneg a3
 have b1 : nq a1 * nq w1 ≤ 576460752303423488 * 288230379372937225 := Int.mul_le_mul h1 v1 (nq_nonneg w1) (by decide)
 have b2 : nq a2 * nq w2 ≤ 576460752303423488 * 288230379372937225 := Int.mul_le_mul h2 v2 (nq_nonneg w2) (by decide)
 have b3 : nq a3 * nq w3 ≤ 576460752303423488 * 288230379372937225 := Int.mul_le_mul h3 v3 (nq_nonneg w3) (by decide)
 have l1 : nq a1 * 288230372930486281 ≤ nq a1 * nq w1 := Int.mul_le_mul_of_nonneg_left u1 m1
 have l2 : nq a2 * 288230372930486281 ≤ nq a2 * nq w2 := Int.mul_le_mul_of_nonneg_left u2 m2
 have l3 : nq a3 * 288230372930486281 ≤ nq a3 * nq w3 := Int.mul_le_mul_of_nonneg_left u3 m3
 have hs := quad_all inv (gscale 29 a0) (gmul a1 w1) (gmul a2 w2) (gmul a3 w3)
 obtain ⟨S, hS⟩ : ∃ S, nq (gscale 29 a0) + nq (gmul a1 w1) + nq (gmul a2 w2) + nq (gmul a3 w3) = S := ⟨_, rfl⟩
 have hV : V ≤ 576460752303423488 ∧ V * 288230372930486281 ≤ S ∧ S ≤ 664614003463188128800555079378665472 := by
  rw [nq_scale, nq_mul, nq_mul, nq_mul, show (2 : Int) ^ 29 = 536870912 by decide] at hS
  clear hs
  generalize nq a1 * nq w1 = c1 at *
  generalize nq a2 * nq w2 = c2 at *
  generalize nq a3 * nq w3 = c3 at *
  generalize nq a0 = x0 at *
  generalize nq a1 = x1 at *
  generalize nq a2 = x2 at *
  generalize nq a3 = x3 at *
  clear u1 v1 u2 v2 u3 v3
  rcases h with h | h | h | h
  ·exact ⟨by omega, by omega, by omega⟩
  ·exact ⟨by omega, by omega, by omega⟩
  ·exact ⟨by omega, by omega, by omega⟩
  ·exact ⟨by omega, by omega, by omega⟩
 clear h h0 h1 h2 h3 u1 v1 u2 v2 u3 v3 b1 b2 b3 l1 l2 l3 m0 m1 m2 m3
 obtain ⟨hv1, hv2, hv3⟩ := hV
 rw [hS] at hs
 have hc : S ≤ nq (quadSum inv 0 (gscale 29 a0) (gmul a1 w1) (gmul a2 w2) (gmul a3 w3)) ∨ S ≤ nq (quadSum inv 1 (gscale 29 a0) (gmul a1 w1) (gmul a2 w2) (gmul a3 w3)) ∨ S ≤ nq (quadSum inv 2 (gscale 29 a0) (gmul a1 w1) (gmul a2 w2) (gmul a3 w3)) ∨ S ≤ nq (quadSum inv 3 (gscale 29 a0) (gmul a1 w1) (gmul a2 w2) (gmul a3 w3)) := by omega
 rcases hc with hc | hc | hc | hc
 ·have k := (grnd_nq (quadSum inv 0 (gscale 29 a0) (gmul a1 w1) (gmul a2 w2) (gmul a3 w3)) (29 + 1) mo 2147483648 0 hm (by decide) (by
   have hz := quad_nq inv 0 (gscale 29 a0) (gmul a1 w1) (gmul a2 w2) (gmul a3 w3)
   rw [show (2 : Int) ^ (29 + 1) = 1073741824 by decide]
   omega)).2
  rw [show (2 : Int) ^ (29 + 1) = 1073741824 by decide] at k
  have goal : V ≤ 4 * (nq (quadOut 29 1 mo inv 0 a0 a1 a2 a3 w1 w2 w3) + 1125899906842624) := by
   unfold quadOut
   generalize nq (grnd (29 + 1) mo (quadSum inv 0 (gscale 29 a0) (gmul a1 w1) (gmul a2 w2) (gmul a3 w3))) = y at *
   clear hs
   omega
  exact .inl goal
 ·have k := (grnd_nq (quadSum inv 1 (gscale 29 a0) (gmul a1 w1) (gmul a2 w2) (gmul a3 w3)) (29 + 1) mo 2147483648 0 hm (by decide) (by
   have hz := quad_nq inv 1 (gscale 29 a0) (gmul a1 w1) (gmul a2 w2) (gmul a3 w3)
   rw [show (2 : Int) ^ (29 + 1) = 1073741824 by decide]
   omega)).2
  rw [show (2 : Int) ^ (29 + 1) = 1073741824 by decide] at k
  have goal : V ≤ 4 * (nq (quadOut 29 1 mo inv 1 a0 a1 a2 a3 w1 w2 w3) + 1125899906842624) := by
   unfold quadOut
   generalize nq (grnd (29 + 1) mo (quadSum inv 1 (gscale 29 a0) (gmul a1 w1) (gmul a2 w2) (gmul a3 w3))) = y at *
   clear hs
   omega
  exact .inr (.inl goal)
 ·have k := (grnd_nq (quadSum inv 2 (gscale 29 a0) (gmul a1 w1) (gmul a2 w2) (gmul a3 w3)) (29 + 1) mo 2147483648 0 hm (by decide) (by
   have hz := quad_nq inv 2 (gscale 29 a0) (gmul a1 w1) (gmul a2 w2) (gmul a3 w3)
   rw [show (2 : Int) ^ (29 + 1) = 1073741824 by decide]
   omega)).2
  rw [show (2 : Int) ^ (29 + 1) = 1073741824 by decide] at k
  have goal : V ≤ 4 * (nq (quadOut 29 1 mo inv 2 a0 a1 a2 a3 w1 w2 w3) + 1125899906842624) := by
   unfold quadOut
   generalize nq (grnd (29 + 1) mo (quadSum inv 2 (gscale 29 a0) (gmul a1 w1) (gmul a2 w2) (gmul a3 w3))) = y at *
   clear hs
   omega
  exact .inr (.inr (.inl goal))
 ·have k := (grnd_nq (quadSum inv 3 (gscale 29 a0) (gmul a1 w1) (gmul a2 w2) (gmul a3 w3)) (29 + 1) mo 2147483648 0 hm (by decide) (by
   have hz := quad_nq inv 3 (gscale 29 a0) (gmul a1 w1) (gmul a2 w2) (gmul a3 w3)
   rw [show (2 : Int) ^ (29 + 1) = 1073741824 by decide]
   omega)).2
  rw [show (2 : Int) ^ (29 + 1) = 1073741824 by decide] at k
  have goal : V ≤ 4 * (nq (quadOut 29 1 mo inv 3 a0 a1 a2 a3 w1 w2 w3) + 1125899906842624) := by
   unfold quadOut
   generalize nq (grnd (29 + 1) mo (quadSum inv 3 (gscale 29 a0) (gmul a1 w1) (gmul a2 w2) (gmul a3 w3))) = y at *
   clear hs
   omega
  exact .inr (.inr (.inr goal))
theorem four_low31_2 (inv : Bool) (a0 a1 a2 a3 w1 w2 w3 : Gi) (mo V : Int) (hm : mo = 0 ∨ mo = 1 ∨ mo = 2) (h : V ≤ nq a0 ∨ V ≤ nq a1 ∨ V ≤ nq a2 ∨ V ≤ nq a3) (h0 : nq a0 ≤ 2305843009213693952) (h1 : nq a1 ≤ 2305843009213693952) (h2 : nq a2 ≤ 2305843009213693952) (h3 : nq a3 ≤ 2305843009213693952)
 (u1 : 288230372930486281 ≤ nq w1) (v1 : nq w1 ≤ 288230379372937225) (u2 : 288230372930486281 ≤ nq w2) (v2 : nq w2 ≤ 288230379372937225) (u3 : 288230372930486281 ≤ nq w3) (v3 : nq w3 ≤ 288230379372937225) :
 V ≤ 16 * (nq (quadOut 29 2 mo inv 0 a0 a1 a2 a3 w1 w2 w3) + 1125899906842624) ∨ V ≤ 16 * (nq (quadOut 29 2 mo inv 1 a0 a1 a2 a3 w1 w2 w3) + 1125899906842624) ∨ V ≤ 16 * (nq (quadOut 29 2 mo inv 2 a0 a1 a2 a3 w1 w2 w3) + 1125899906842624) ∨ V ≤ 16 * (nq (quadOut 29 2 mo inv 3 a0 a1 a2 a3 w1 w2 w3) + 1125899906842624) := by
 have m0 := nq_nonneg a0
 have m1 := nq_nonneg a1
 have m2 := nq_nonneg a2
 have m3 := nq_nonneg a3
 have b1 : nq a1 * nq w1 ≤ 2305843009213693952 * 288230379372937225 := Int.mul_le_mul h1 v1 (nq_nonneg w1) (by decide)
 have b2 : nq a2 * nq w2 ≤ 2305843009213693952 * 288230379372937225 := Int.mul_le_mul h2 v2 (nq_nonneg w2) (by decide)
 have b3 : nq a3 * nq w3 ≤ 2305843009213693952 * 288230379372937225 := Int.mul_le_mul h3 v3 (nq_nonneg w3) (by decide)
 have l1 : nq a1 * 288230372930486281 ≤ nq a1 * nq w1 := Int.mul_le_mul_of_nonneg_left u1 m1
 have l2 : nq a2 * 288230372930486281 ≤ nq a2 * nq w2 := Int.mul_le_mul_of_nonneg_left u2 m2
 have l3 : nq a3 * 288230372930486281 ≤ nq a3 * nq w3 := Int.mul_le_mul_of_nonneg_left u3 m3
 have hs := quad_all inv (gscale 29 a0) (gmul a1 w1) (gmul a2 w2) (gmul a3 w3)
 obtain ⟨S, hS⟩ : ∃ S, nq (gscale 29 a0) + nq (gmul a1 w1) + nq (gmul a2 w2) + nq (gmul a3 w3) = S := ⟨_, rfl⟩
 have hV : V ≤ 2305843009213693952 ∧ V * 288230372930486281 ≤ S ∧ S ≤ 2658456013852752515202220317514661888 := by
  rw [nq_scale, nq_mul, nq_mul, nq_mul, show (2 : Int) ^ 29 = 536870912 by decide] at hS
  clear hs
  generalize nq a1 * nq w1 = c1 at *
  generalize nq a2 * nq w2 = c2 at *
  generalize nq a3 * nq w3 = c3 at *
  generalize nq a0 = x0 at *
  generalize nq a1 = x1 at *
  generalize nq a2 = x2 at *
  generalize nq a3 = x3 at *
  clear u1 v1 u2 v2 u3 v3
  rcases h with h | h | h | h
  ·exact ⟨by omega, by omega, by omega⟩
  ·exact ⟨by omega, by omega, by omega⟩
  ·exact ⟨by omega, by omega, by omega⟩
  ·exact ⟨by omega, by omega, by omega⟩
 clear h h0 h1 h2 h3 u1 v1 u2 v2 u3 v3 b1 b2 b3 l1 l2 l3 m0 m1 m2 m3
 obtain ⟨hv1, hv2, hv3⟩ := hV
 rw [hS] at hs
 have hc : S ≤ nq (quadSum inv 0 (gscale 29 a0) (gmul a1 w1) (gmul a2 w2) (gmul a3 w3)) ∨ S ≤ nq (quadSum inv 1 (gscale 29 a0) (gmul a1 w1) (gmul a2 w2) (gmul a3 w3)) ∨ S ≤ nq (quadSum inv 2 (gscale 29 a0) (gmul a1 w1) (gmul a2 w2) (gmul a3 w3)) ∨ S ≤ nq (quadSum inv 3 (gscale 29 a0) (gmul a1 w1) (gmul a2 w2) (gmul a3 w3)) := by omega
 rcases hc with hc | hc | hc | hc
 ·have k := (grnd_nq (quadSum inv 0 (gscale 29 a0) (gmul a1 w1) (gmul a2 w2) (gmul a3 w3)) (29 + 2) mo 2147483648 0 hm (by decide) (by
   have hz := quad_nq inv 0 (gscale 29 a0) (gmul a1 w1) (gmul a2 w2) (gmul a3 w3)
   rw [show (2 : Int) ^ (29 + 2) = 2147483648 by decide]
   omega)).2
  rw [show (2 : Int) ^ (29 + 2) = 2147483648 by decide] at k
  have goal : V ≤ 16 * (nq (quadOut 29 2 mo inv 0 a0 a1 a2 a3 w1 w2 w3) + 1125899906842624) := by
   unfold quadOut
   generalize nq (grnd (29 + 2) mo (quadSum inv 0 (gscale 29 a0) (gmul a1 w1) (gmul a2 w2) (gmul a3 w3))) = y at *
   clear hs
   omega
  exact .inl goal
 ·have k := (grnd_nq (quadSum inv 1 (gscale 29 a0) (gmul a1 w1) (gmul a2 w2) (gmul a3 w3)) (29 + 2) mo 2147483648 0 hm (by decide) (by
   have hz := quad_nq inv 1 (gscale 29 a0) (gmul a1 w1) (gmul a2 w2) (gmul a3 w3)
   rw [show (2 : Int) ^ (29 + 2) = 2147483648 by decide]
   omega)).2
  rw [show (2 : Int) ^ (29 + 2) = 2147483648 by decide] at k
  have goal : V ≤ 16 * (nq (quadOut 29 2 mo inv 1 a0 a1 a2 a3 w1 w2 w3) + 1125899906842624) := by
   unfold quadOut
   generalize nq (grnd (29 + 2) mo (quadSum inv 1 (gscale 29 a0) (gmul a1 w1) (gmul a2 w2) (gmul a3 w3))) = y at *
   clear hs
   omega
  exact .inr (.inl goal)
 ·have k := (grnd_nq (quadSum inv 2 (gscale 29 a0) (gmul a1 w1) (gmul a2 w2) (gmul a3 w3)) (29 + 2) mo 2147483648 0 hm (by decide) (by
   have hz := quad_nq inv 2 (gscale 29 a0) (gmul a1 w1) (gmul a2 w2) (gmul a3 w3)
   rw [show (2 : Int) ^ (29 + 2) = 2147483648 by decide]
   omega)).2
  rw [show (2 : Int) ^ (29 + 2) = 2147483648 by decide] at k
  have goal : V ≤ 16 * (nq (quadOut 29 2 mo inv 2 a0 a1 a2 a3 w1 w2 w3) + 1125899906842624) := by
   unfold quadOut
   generalize nq (grnd (29 + 2) mo (quadSum inv 2 (gscale 29 a0) (gmul a1 w1) (gmul a2 w2) (gmul a3 w3))) = y at *
   clear hs
   omega
  exact .inr (.inr (.inl goal))
 ·have k := (grnd_nq (quadSum inv 3 (gscale 29 a0) (gmul a1 w1) (gmul a2 w2) (gmul a3 w3)) (29 + 2) mo 2147483648 0 hm (by decide) (by
   have hz := quad_nq inv 3 (gscale 29 a0) (gmul a1 w1) (gmul a2 w2) (gmul a3 w3)
   rw [show (2 : Int) ^ (29 + 2) = 2147483648 by decide]
   omega)).2
  rw [show (2 : Int) ^ (29 + 2) = 2147483648 by decide] at k
  have goal : V ≤ 16 * (nq (quadOut 29 2 mo inv 3 a0 a1 a2 a3 w1 w2 w3) + 1125899906842624) := by
   unfold quadOut
   generalize nq (grnd (29 + 2) mo (quadSum inv 3 (gscale 29 a0) (gmul a1 w1) (gmul a2 w2) (gmul a3 w3))) = y at *
   clear hs
   omega
  exact .inr (.inr (.inr goal))
theorem four_low31_3 (inv : Bool) (a0 a1 a2 a3 w1 w2 w3 : Gi) (mo V : Int) (hm : mo = 0 ∨ mo = 1 ∨ mo = 2) (h : V ≤ nq a0 ∨ V ≤ nq a1 ∨ V ≤ nq a2 ∨ V ≤ nq a3) (h0 : nq a0 ≤ 9223372036854775808) (h1 : nq a1 ≤ 9223372036854775808) (h2 : nq a2 ≤ 9223372036854775808) (h3 : nq a3 ≤ 9223372036854775808)
 (u1 : 288230372930486281 ≤ nq w1) (v1 : nq w1 ≤ 288230379372937225) (u2 : 288230372930486281 ≤ nq w2) (v2 : nq w2 ≤ 288230379372937225) (u3 : 288230372930486281 ≤ nq w3) (v3 : nq w3 ≤ 288230379372937225) :
 V ≤ 64 * (nq (quadOut 29 3 mo inv 0 a0 a1 a2 a3 w1 w2 w3) + 1125899906842624) ∨ V ≤ 64 * (nq (quadOut 29 3 mo inv 1 a0 a1 a2 a3 w1 w2 w3) + 1125899906842624) ∨ V ≤ 64 * (nq (quadOut 29 3 mo inv 2 a0 a1 a2 a3 w1 w2 w3) + 1125899906842624) ∨ V ≤ 64 * (nq (quadOut 29 3 mo inv 3 a0 a1 a2 a3 w1 w2 w3) + 1125899906842624) := by
 have m0 := nq_nonneg a0
 have m1 := nq_nonneg a1
 have m2 := nq_nonneg a2
 have m3 := nq_nonneg a3
 have b1 : nq a1 * nq w1 ≤ 9223372036854775808 * 288230379372937225 := Int.mul_le_mul h1 v1 (nq_nonneg w1) (by decide)
 have b2 : nq a2 * nq w2 ≤ 9223372036854775808 * 288230379372937225 := Int.mul_le_mul h2 v2 (nq_nonneg w2) (by decide)
 have b3 : nq a3 * nq w3 ≤ 9223372036854775808 * 288230379372937225 := Int.mul_le_mul h3 v3 (nq_nonneg w3) (by decide)
 have l1 : nq a1 * 288230372930486281 ≤ nq a1 * nq w1 := Int.mul_le_mul_of_nonneg_left u1 m1
 have l2 : nq a2 * 288230372930486281 ≤ nq a2 * nq w2 := Int.mul_le_mul_of_nonneg_left u2 m2
 have l3 : nq a3 * 288230372930486281 ≤ nq a3 * nq w3 := Int.mul_le_mul_of_nonneg_left u3 m3
 have hs := quad_all inv (gscale 29 a0) (gmul a1 w1) (gmul a2 w2) (gmul a3 w3)
 obtain ⟨S, hS⟩ : ∃ S, nq (gscale 29 a0) + nq (gmul a1 w1) + nq (gmul a2 w2) + nq (gmul a3 w3) = S := ⟨_, rfl⟩
 have hV : V ≤ 9223372036854775808 ∧ V * 288230372930486281 ≤ S ∧ S ≤ 10633824055411010060808881270058647552 := by
  rw [nq_scale, nq_mul, nq_mul, nq_mul, show (2 : Int) ^ 29 = 536870912 by decide] at hS
  clear hs
  generalize nq a1 * nq w1 = c1 at *
  generalize nq a2 * nq w2 = c2 at *
  generalize nq a3 * nq w3 = c3 at *
  generalize nq a0 = x0 at *
  generalize nq a1 = x1 at *
  generalize nq a2 = x2 at *
  generalize nq a3 = x3 at *
  clear u1 v1 u2 v2 u3 v3
  rcases h with h | h | h | h
  ·exact ⟨by omega, by omega, by omega⟩
  ·exact ⟨by omega, by omega, by omega⟩
  ·exact ⟨by omega, by omega, by omega⟩
  ·exact ⟨by omega, by omega, by omega⟩
 clear h h0 h1 h2 h3 u1 v1 u2 v2 u3 v3 b1 b2 b3 l1 l2 l3 m0 m1 m2 m3
 obtain ⟨hv1, hv2, hv3⟩ := hV
 rw [hS] at hs
 have hc : S ≤ nq (quadSum inv 0 (gscale 29 a0) (gmul a1 w1) (gmul a2 w2) (gmul a3 w3)) ∨ S ≤ nq (quadSum inv 1 (gscale 29 a0) (gmul a1 w1) (gmul a2 w2) (gmul a3 w3)) ∨ S ≤ nq (quadSum inv 2 (gscale 29 a0) (gmul a1 w1) (gmul a2 w2) (gmul a3 w3)) ∨ S ≤ nq (quadSum inv 3 (gscale 29 a0) (gmul a1 w1) (gmul a2 w2) (gmul a3 w3)) := by omega
 rcases hc with hc | hc | hc | hc
 ·have k := (grnd_nq (quadSum inv 0 (gscale 29 a0) (gmul a1 w1) (gmul a2 w2) (gmul a3 w3)) (29 + 3) mo 2147483648 0 hm (by decide) (by
   have hz := quad_nq inv 0 (gscale 29 a0) (gmul a1 w1) (gmul a2 w2) (gmul a3 w3)
   rw [show (2 : Int) ^ (29 + 3) = 4294967296 by decide]
   omega)).2
  rw [show (2 : Int) ^ (29 + 3) = 4294967296 by decide] at k
  have goal : V ≤ 64 * (nq (quadOut 29 3 mo inv 0 a0 a1 a2 a3 w1 w2 w3) + 1125899906842624) := by
   unfold quadOut
   generalize nq (grnd (29 + 3) mo (quadSum inv 0 (gscale 29 a0) (gmul a1 w1) (gmul a2 w2) (gmul a3 w3))) = y at *
   clear hs
   omega
  exact .inl goal
 ·have k := (grnd_nq (quadSum inv 1 (gscale 29 a0) (gmul a1 w1) (gmul a2 w2) (gmul a3 w3)) (29 + 3) mo 2147483648 0 hm (by decide) (by
   have hz := quad_nq inv 1 (gscale 29 a0) (gmul a1 w1) (gmul a2 w2) (gmul a3 w3)
   rw [show (2 : Int) ^ (29 + 3) = 4294967296 by decide]
   omega)).2
  rw [show (2 : Int) ^ (29 + 3) = 4294967296 by decide] at k
  have goal : V ≤ 64 * (nq (quadOut 29 3 mo inv 1 a0 a1 a2 a3 w1 w2 w3) + 1125899906842624) := by
   unfold quadOut
   generalize nq (grnd (29 + 3) mo (quadSum inv 1 (gscale 29 a0) (gmul a1 w1) (gmul a2 w2) (gmul a3 w3))) = y at *
   clear hs
   omega
  exact .inr (.inl goal)
 ·have k := (grnd_nq (quadSum inv 2 (gscale 29 a0) (gmul a1 w1) (gmul a2 w2) (gmul a3 w3)) (29 + 3) mo 2147483648 0 hm (by decide) (by
   have hz := quad_nq inv 2 (gscale 29 a0) (gmul a1 w1) (gmul a2 w2) (gmul a3 w3)
   rw [show (2 : Int) ^ (29 + 3) = 4294967296 by decide]
   omega)).2
  rw [show (2 : Int) ^ (29 + 3) = 4294967296 by decide] at k
  have goal : V ≤ 64 * (nq (quadOut 29 3 mo inv 2 a0 a1 a2 a3 w1 w2 w3) + 1125899906842624) := by
   unfold quadOut
   generalize nq (grnd (29 + 3) mo (quadSum inv 2 (gscale 29 a0) (gmul a1 w1) (gmul a2 w2) (gmul a3 w3))) = y at *
   clear hs
   omega
  exact .inr (.inr (.inl goal))
 ·have k := (grnd_nq (quadSum inv 3 (gscale 29 a0) (gmul a1 w1) (gmul a2 w2) (gmul a3 w3)) (29 + 3) mo 2147483648 0 hm (by decide) (by
   have hz := quad_nq inv 3 (gscale 29 a0) (gmul a1 w1) (gmul a2 w2) (gmul a3 w3)
   rw [show (2 : Int) ^ (29 + 3) = 4294967296 by decide]
   omega)).2
  rw [show (2 : Int) ^ (29 + 3) = 4294967296 by decide] at k
  have goal : V ≤ 64 * (nq (quadOut 29 3 mo inv 3 a0 a1 a2 a3 w1 w2 w3) + 1125899906842624) := by
   unfold quadOut
   generalize nq (grnd (29 + 3) mo (quadSum inv 3 (gscale 29 a0) (gmul a1 w1) (gmul a2 w2) (gmul a3 w3))) = y at *
   clear hs
   omega
  exact .inr (.inr (.inr goal))
end
end Go.Proofs.YtablflakcaimmaaGreat
