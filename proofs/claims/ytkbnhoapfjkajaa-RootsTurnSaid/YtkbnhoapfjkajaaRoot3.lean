/- Roots of 1: the product of two, in whole numbers. -/
import Derived.Test.YtkbnhoapfjkajaaRoot2
namespace Go.Proofs.Ytkbnhoapfjkajaa
set_option linter.unusedVariables false

def Gi.less (a b : Gi) : Gi := ⟨a.re - b.re, a.im - b.im⟩
def Gi.up (B : Int) (a : Gi) : Gi := ⟨a.re * B, a.im * B⟩

theorem mul_turn (p q : Int) (a b : Gi) : (a.turn p).mul (b.turn q) = (a.mul b).turn (p + q) := by
  unfold Gi.turn Gi.mul
  rcases q4 p with h1 | h1 | h1 | h1 <;> rcases q4 q with h2 | h2 | h2 | h2 <;> first
    | (have h3 : (p + q) % 4 = 0 := by omega
       simp only [h1, h2, h3]; apply Gi.ext2 <;> simp <;> grind)
    | (have h3 : (p + q) % 4 = 1 := by omega
       simp only [h1, h2, h3]; apply Gi.ext2 <;> simp <;> grind)
    | (have h3 : (p + q) % 4 = 2 := by omega
       simp only [h1, h2, h3]; apply Gi.ext2 <;> simp <;> grind)
    | (have h3 : (p + q) % 4 = 3 := by omega
       simp only [h1, h2, h3]; apply Gi.ext2 <;> simp <;> grind)

theorem conj_mul_gi (a b : Gi) : a.conj.mul b.conj = (a.mul b).conj := by
  apply Gi.ext2 <;> simp only [Gi.mul, Gi.conj] <;> grind
theorem turn_less (q : Int) (a b : Gi) : (a.less b).turn q = (a.turn q).less (b.turn q) := by
  unfold Gi.turn Gi.less
  rcases q4 q with h | h | h | h <;> simp [h] <;> omega
theorem turn_up (q B : Int) (a : Gi) : (a.up B).turn q = (a.turn q).up B := by
  unfold Gi.turn Gi.up
  rcases q4 q with h | h | h | h <;> simp [h, Int.neg_mul]
theorem conj_less (a b : Gi) : (a.less b).conj = a.conj.less b.conj := by
  apply Gi.ext2 <;> simp only [Gi.less, Gi.conj] <;> omega
theorem conj_up (B : Int) (a : Gi) : (a.up B).conj = a.conj.up B := by
  apply Gi.ext2 <;> simp only [Gi.up, Gi.conj]
  rw [Int.neg_mul]
theorem turn_turn (p q : Int) (a : Gi) : (a.turn p).turn q = a.turn (p + q) := by
  unfold Gi.turn
  rcases q4 p with h1 | h1 | h1 | h1 <;> rcases q4 q with h2 | h2 | h2 | h2 <;> first
    | (have h3 : (p + q) % 4 = 0 := by omega
       simp [h1, h2, h3]; done)
    | (have h3 : (p + q) % 4 = 1 := by omega
       simp [h1, h2, h3]; done)
    | (have h3 : (p + q) % 4 = 2 := by omega
       simp [h1, h2, h3]; done)
    | (have h3 : (p + q) % 4 = 3 := by omega
       simp [h1, h2, h3]; done)

/-- The sum of what is off. -/
theorem off_prod (ra rb rc ea' eb' ec t : Zc) (B : Rat) (hB : 4096 ≤ B) (hB2 : B ≤ 1073741824) (ha : N1 ra (3 / 2)) (hb : N1 rb (3 / 2)) (oa : Off ea') (ob : Off eb') (oc : Off ec)
    (ht : N1 (((ra.mul rb).sub (t.mul rc))) (2000 * ea)) (tt : t = Zc.one ∨ t = ic) (x y : Rat)
    (hx : x = ((ra.smul B).add ea').re * ((rb.smul B).add eb').re - ((ra.smul B).add ea').im * ((rb.smul B).add eb').im - B * (t.mul ((rc.smul B).add ec)).re)
    (hy : y = ((ra.smul B).add ea').re * ((rb.smul B).add eb').im + ((ra.smul B).add ea').im * ((rb.smul B).add eb').re - B * (t.mul ((rc.smul B).add ec)).im) :
    (-(4 * B) ≤ x ∧ x ≤ 4 * B) ∧ (-(4 * B) ≤ y ∧ y ≤ 4 * B) := by
  have B0 : 0 ≤ B := by grind
  have BB : B * B ≤ 1073741824 * B := Rat.mul_le_mul_of_nonneg_right hB2 B0
  have g1 := (ht.smul (r := B * B) (Rat.mul_nonneg B0 B0))
  have g2 := (ha.mul ob.n).smul B0
  have g3 := (oa.n.mul hb).smul B0
  have g4 := oa.n.mul ob.n
  have g := ((g1.add g2).add g3).add g4
  have eap : 0 ≤ ea := by decide +kernel
  have e1 : (1073741824 : Rat) * (2000 * ea) ≤ 1 / 1000 := by decide +kernel
  have k1 := Rat.mul_le_mul_of_nonneg_right BB (show 0 ≤ 2000 * ea by grind)
  have k2 := Rat.mul_le_mul_of_nonneg_right e1 B0
  have g' := g.mono (e := 3005 / 1000 * B + 1003 / 1000) (by grind)
  have r1 := g'.re
  have i1 := g'.im
  have c1 := oc.re
  have c2 := oc.im
  have m1 := Rat.mul_le_mul_of_nonneg_left c1.1 B0
  have m2 := Rat.mul_le_mul_of_nonneg_left c1.2 B0
  have m3 := Rat.mul_le_mul_of_nonneg_left c2.1 B0
  have m4 := Rat.mul_le_mul_of_nonneg_left c2.2 B0
  clear g g1 g2 g3 g4 g' ht ha hb oa ob oc k1 k2 BB
  rcases tt with rfl | rfl
  · simp only [Zc.add, Zc.sub, Zc.smul, Zc.mul, Zc.one] at *
    refine ⟨⟨?_, ?_⟩, ⟨?_, ?_⟩⟩ <;> subst hx hy <;> grind
  · simp only [Zc.add, Zc.sub, Zc.smul, Zc.mul, ic] at *
    refine ⟨⟨?_, ?_⟩, ⟨?_, ?_⟩⟩ <;> subst hx hy <;> grind

theorem one_mul' (r : Zc) : Zc.one.mul r = r := by apply Zc.ext2 <;> simp only [Zc.mul, Zc.one] <;> grind

theorem tau (ya yb yc c : Int) (hc : c = 0 ∨ c = 1) (a0 : 0 ≤ ya) (a1 : ya ≤ 113187804032455044) (b0 : 0 ≤ yb) (b1 : yb ≤ 113187804032455044) (c0 : 0 ≤ yc) (c1 : yc ≤ 113187804032455044)
    (h : (ya + yb - (yc + c * 113187804032455044)).natAbs ≤ 1) :
    N1 (((rot (256 * ya)).mul (rot (256 * yb))).sub ((if c = 0 then Zc.one else ic).mul (rot (256 * yc)))) (2000 * ea) := by
  have g1 := rot_mul (256 * ya) (256 * yb) (by omega) (by omega)
  rcases hc with rfl | rfl
  · rw [if_pos rfl, one_mul']
    have g2 := rot_near (256 * ya + 256 * yb) (256 * yc) 256 (by omega) (by omega) (by omega)
    have g := (g1.add g2).mono (e := 2000 * ea) (by decide +kernel)
    refine cast (congrArg (fun z => N1 z _) ?_) g
    generalize rot (256 * ya + 256 * yb) = p1
    apply Zc.ext2 <;> simp only [Zc.sub, Zc.add, Zc.mul] <;> grind
  · rw [if_neg (by decide)]
    have g2 := rot_near (256 * ya + 256 * yb) (28976077832308491264 + 256 * yc) 256 (by omega) (by omega) (by omega)
    have g3 := (rot_mul 28976077832308491264 (256 * yc) (by decide) (by omega)).neg0
    have g4 := quarter_rot.mul (rot_N1 (256 * yc) (by omega))
    have g := (((g1.add g2).add g3).add g4).mono (e := 2000 * ea) (by decide +kernel)
    refine cast (congrArg (fun z => N1 z _) ?_) g
    generalize rot (256 * ya + 256 * yb) = p1
    generalize rot (28976077832308491264 + 256 * yc) = p2
    generalize rot 28976077832308491264 = p3
    generalize rot (256 * ya) = p4
    generalize rot (256 * yb) = p5
    generalize rot (256 * yc) = p6
    apply Zc.ext2 <;> simp only [Zc.sub, Zc.add, Zc.mul] <;> grind

theorem carry (n k m : Int) (hn : IsLen n) : ∃ c : Int, (c = 0 ∨ c = 1) ∧ 4 * (k % n) % n + 4 * (m % n) % n = 4 * ((k + m) % n) % n + c * n ∧ (4 * ((k + m) % n) / n) % 4 = (4 * (k % n) / n + 4 * (m % n) / n + c) % 4 := by
  refine ⟨(4 * (k % n) % n + 4 * (m % n) % n) / n, ?_, ?_, ?_⟩ <;> rcases hn with rfl | rfl | rfl | rfl | rfl <;> omega

theorem eZ_carry (n ua ub uc c : Int) (hn : IsLen n) (hc : c = 0 ∨ c = 1) (h : ua + ub = uc + c * n) (a0 : 0 ≤ ua) (a1 : ua < n) (b0 : 0 ≤ ub) (b1 : ub < n) (c0 : 0 ≤ uc) (c1 : uc < n) :
    (eZ n (2 * ua) + eZ n (2 * ub) - (eZ n (2 * uc) + c * 113187804032455044)).natAbs ≤ 1 ∧ 0 ≤ eZ n (2 * ua) ∧ eZ n (2 * ua) ≤ 113187804032455044 ∧ 0 ≤ eZ n (2 * ub) ∧ eZ n (2 * ub) ≤ 113187804032455044 ∧ 0 ≤ eZ n (2 * uc) ∧ eZ n (2 * uc) ≤ 113187804032455044 := by
  unfold eZ
  rcases hn with rfl | rfl | rfl | rfl | rfl <;> rcases hc with rfl | rfl <;> omega

theorem one_turn (c : Int) (hc : c = 0 ∨ c = 1) (a : Gi) : gc (a.turn c) = (if c = 0 then Zc.one else ic).mul (gc a) := by
  rcases hc with rfl | rfl
  · rw [if_pos rfl, one_mul']; rfl
  · rw [if_neg (by decide)]
    unfold gc Gi.turn
    apply Zc.ext2 <;> simp [Zc.mul, ic, Rat.intCast_neg] <;> grind

theorem int_le4 (x B : Int) (h0 : -(4 * (B : Rat)) ≤ (x : Rat)) (h1 : (x : Rat) ≤ 4 * (B : Rat)) : -(4 * B) ≤ x ∧ x ≤ 4 * B := by
  have c : ((4 * B : Int) : Rat) = 4 * (B : Rat) := by rw [Rat.intCast_mul]; rfl
  have c' : ((-(4 * B) : Int) : Rat) = -(4 * (B : Rat)) := by rw [Rat.intCast_neg, c]
  rw [← c] at h1
  rw [← c'] at h0
  exact ⟨Rat.intCast_le_intCast.1 h0, Rat.intCast_le_intCast.1 h1⟩

theorem root_prod (n k m : Int) (hn : IsLen n) (s : Nat) (h0 : 26 ≤ s) (h1 : s ≤ 44) (B : Int) (hB : B = 2 ^ (56 - s)) :
    (((rootG n k s).mul (rootG n m s)).less ((rootG n (k + m) s).up B)).re.natAbs ≤ (4 * B).toNat ∧ (((rootG n k s).mul (rootG n m s)).less ((rootG n (k + m) s).up B)).im.natAbs ≤ (4 * B).toNat := by
  obtain ⟨c, hc, hu, hq⟩ := carry n k m hn
  have la := len_u n k hn
  have lb := len_u n m hn
  have lc := len_u n (k + m) hn
  have ez := eZ_carry n _ _ _ c hn hc hu la.1 la.2.1 lb.1 lb.2.1 lc.1 lc.2.1
  have na := rpt_near n _ hn la.1 la.2.1
  have nb := rpt_near n _ hn lb.1 lb.2.1
  have nc := rpt_near n _ hn lc.1 lc.2.1
  unfold rootG
  generalize 4 * (k % n) % n = ua at *
  generalize 4 * (m % n) % n = ub at *
  generalize 4 * ((k + m) % n) % n = uc at *
  generalize 4 * (k % n) / n = qa at *
  generalize 4 * (m % n) / n = qb at *
  generalize 4 * ((k + m) % n) / n = qc at *
  have oa := rsh_near _ _ s h0 (by omega) na
  have ob := rsh_near _ _ s h0 (by omega) nb
  have oc := rsh_near _ _ s h0 (by omega) nc
  rw [← hB] at oa ob oc
  have ht := tau _ _ _ c hc ez.2.1 ez.2.2.1 ez.2.2.2.1 ez.2.2.2.2.1 ez.2.2.2.2.2.1 ez.2.2.2.2.2.2 ez.1
  have ra := rot_N1 (256 * eZ n (2 * ua)) (by omega)
  have rb := rot_N1 (256 * eZ n (2 * ub)) (by omega)
  have B1 : (4096 : Int) ≤ B := by
    have : (2 : Nat) ^ 12 ≤ 2 ^ (56 - s) := Nat.pow_le_pow_right (by decide) (by omega)
    have c : ((2 ^ (56 - s) : Nat) : Int) = 2 ^ (56 - s) := by rw [Int.natCast_pow]; rfl
    omega
  have B2 : B ≤ 1073741824 := by
    have : (2 : Nat) ^ (56 - s) ≤ 2 ^ 30 := Nat.pow_le_pow_right (by decide) (by omega)
    have c : ((2 ^ (56 - s) : Nat) : Int) = 2 ^ (56 - s) := by rw [Int.natCast_pow]; rfl
    omega
  clear na nb nc ez hB hu la lb lc
  generalize rsh s (rpt n ua) = a at *
  generalize rsh s (rpt n ub) = b at *
  generalize rsh s (rpt n uc) = d at *
  generalize rot (256 * eZ n (2 * ua)) = pa at *
  generalize rot (256 * eZ n (2 * ub)) = pb at *
  generalize rot (256 * eZ n (2 * uc)) = pc at *
  -- the turns
  have e1 : ((a.turn qa).conj.mul (b.turn qb).conj).less ((d.turn qc).conj.up B) = (((a.mul b).less ((d.turn c).up B)).turn (qa + qb)).conj := by
    rw [conj_mul_gi, mul_turn, ← conj_up, ← conj_less]
    congr 1
    rw [turn_less, turn_up, turn_turn, turn_congr qc (c + (qa + qb)) (by omega)]
  rw [e1]
  have key : ((a.mul b).less ((d.turn c).up B)).re.natAbs ≤ (4 * B).toNat ∧ ((a.mul b).less ((d.turn c).up B)).im.natAbs ≤ (4 * B).toNat := by
    have K1 := rat_int_le B1
    have K2 := rat_int_le B2
    have tt : (if c = 0 then Zc.one else ic) = Zc.one ∨ (if c = 0 then Zc.one else ic) = ic := by split; exact .inl rfl; exact .inr rfl
    have ed := one_turn c hc d
    generalize (if c = 0 then Zc.one else ic) = t at *
    generalize d.turn c = d' at *
    have fa : (pa.smul (B : Rat)).add ((gc a).sub (pa.smul (B : Rat))) = gc a := by apply Zc.ext2 <;> simp only [Zc.add, Zc.sub, Zc.smul] <;> grind
    have fb : (pb.smul (B : Rat)).add ((gc b).sub (pb.smul (B : Rat))) = gc b := by apply Zc.ext2 <;> simp only [Zc.add, Zc.sub, Zc.smul] <;> grind
    have fc : (pc.smul (B : Rat)).add ((gc d).sub (pc.smul (B : Rat))) = gc d := by apply Zc.ext2 <;> simp only [Zc.add, Zc.sub, Zc.smul] <;> grind
    have P := off_prod pa pb pc _ _ _ t (B : Rat) K1 K2 ra rb oa ob oc ht tt (((a.mul b).less (d'.up B)).re : Int) (((a.mul b).less (d'.up B)).im : Int)
      (by rw [fa, fb, fc, ← ed]; simp only [Gi.mul, Gi.less, Gi.up, gc]; rw [Rat.intCast_sub, Rat.intCast_sub, Rat.intCast_mul, Rat.intCast_mul, Rat.intCast_mul]; grind)
      (by rw [fa, fb, fc, ← ed]; simp only [Gi.mul, Gi.less, Gi.up, gc]; rw [Rat.intCast_sub, Rat.intCast_add, Rat.intCast_mul, Rat.intCast_mul, Rat.intCast_mul]; grind)
    have p1 := int_le4 _ _ P.1.1 P.1.2
    have p2 := int_le4 _ _ P.2.1 P.2.2
    omega
  have := turn_bd (qa + qb) _ _ key
  unfold Gi.conj
  simp only [Int.natAbs_neg]
  exact this

end Go.Proofs.Ytkbnhoapfjkajaa
