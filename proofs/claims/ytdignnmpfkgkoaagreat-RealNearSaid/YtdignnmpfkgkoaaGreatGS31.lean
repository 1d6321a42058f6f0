import Derived.Test.YtdignnmpfkgkoaaGreatGS30
namespace Go.Proofs.YtdignnmpfkgkoaaGreat
section
set_option linter.unusedVariables false
set_option linter.unusedSimpArgs false
set_option maxRecDepth 100000
theorem up_grnd (bits s : Nat) (mo : Int) (a b w : Gi) : pairUp bits s mo a b w = grnd (bits + s) mo (gadd (gscale bits a) (gmul b w)) := rfl
theorem down_grnd (bits s : Nat) (mo : Int) (a b w : Gi) : pairDown bits s mo a b w = grnd (bits + s) mo (gsub (gscale bits a) (gmul b w)) := rfl
theorem two_len {ys ws : List Gi} {R R' : Int} {h B s : Nat} {mo : Int} {iv : Bool} (hm : mo = 0 ∨ mo = 1 ∨ mo = 2) (hR : 0 ≤ R) (hR' : 0 ≤ R') (hg : ∀ i, Len R (ys.getD i ⟨0, 0⟩)) (hw : ∀ k, Len (2 ^ B + 2) (rootOf ws iv k)) (hr : R * 2 ^ B + R * (2 ^ B + 2) ≤ R' * 2 ^ (B + s)) : ∀ y ∈ twoL ys ws h B s mo iv, Len (R' + 2) y := by
 have hp := pow_pos2 B
 have n1 : 0 ≤ R * 2 ^ B := Int.mul_nonneg hR (by omega)
 have n2 : 0 ≤ R * (2 ^ B + 2) := Int.mul_nonneg hR (by omega)
 intro y hy
 obtain ⟨i, _, rfl⟩ := List.mem_map.1 hy
 unfold twoAt
 split
 ·rw [up_grnd]
  exact Len.rnd (R := R') (B + s) mo hm hR' (Len.mono (Int.add_nonneg n1 n2) (Len.add n1 n2 ((hg _).scale B) (Len.mul hR (hg _) (hw _))) hr)
 ·rw [down_grnd]
  exact Len.rnd (R := R') (B + s) mo hm hR' (Len.mono (Int.add_nonneg n1 n2) (Len.sub n1 n2 ((hg _).scale B) (Len.mul hR (hg _) (hw _))) hr)
theorem four_len {ys ws : List Gi} {R R' : Int} {h B s : Nat} {mo : Int} {iv : Bool} (hm : mo = 0 ∨ mo = 1 ∨ mo = 2) (hR : 0 ≤ R) (hR' : 0 ≤ R') (hg : ∀ i, Len R (ys.getD i ⟨0, 0⟩)) (hw : ∀ k, Len (2 ^ B + 2) (rootOf ws iv k)) (hr : R * 2 ^ B + R * (2 ^ B + 2) + R * (2 ^ B + 2) + R * (2 ^ B + 2) ≤ R' * 2 ^ (B + s)) : ∀ y ∈ fourL ys ws h B s mo iv, Len (R' + 2) y := by
 have hp := pow_pos2 B
 have n1 : 0 ≤ R * 2 ^ B := Int.mul_nonneg hR (by omega)
 have n2 : 0 ≤ R * (2 ^ B + 2) := Int.mul_nonneg hR (by omega)
 intro y hy
 obtain ⟨i, _, rfl⟩ := List.mem_map.1 hy
 unfold fourAt quadOut quadSum
 have t := fun j k => Len.mul hR (hg j) (hw k)
 exact Len.rnd (R := R') (B + s) mo hm hR' (Len.mono (by omega) (Len.add (by omega) n2 (Len.add (by omega) n2 (Len.add n1 n2 ((hg _).scale B) ((t _ _).turn _)) ((t _ _).turn _)) ((t _ _).turn _)) hr)
section
variable {fo b p lo ke sc mo : Int} {L n B : Nat} {xs : List Gi}
theorem PlF.roots (H : PlF fo b p lo ke sc mo L n B) (iv : Bool) (k : Nat) : Len (2 ^ B + 2) (rootOf (tw n B) iv k) := by
 obtain ⟨_, _, hlen⟩ := H.lens
 exact roots_len n hlen B (by rcases H.sizes with h | h <;> omega) (by rcases H.sizes with h | h <;> omega) iv k
theorem getD_len {ys : List Gi} {M R : Int} (h0 : 0 ≤ M) (hR : 2 * (M * M) ≤ R * R) (h : maxG ys ≤ M) (i : Nat) : Len R (ys.getD i ⟨0, 0⟩) := by
 have hg : absI (ys.getD i ⟨0, 0⟩).re ≤ M ∧ absI (ys.getD i ⟨0, 0⟩).im ≤ M := by
  by_cases hi : i < ys.length
  ·have := maxG_ge ys _ (getD_mem ys i hi)
   omega
  ·rw [List.getD_eq_getElem?_getD, List.getElem?_eq_none (by omega)]
   simp [absI]
   omega
 have a := absI_le.1 hg.1
 have b := absI_le.1 hg.2
 have e1 := sqR_le _ _ a.1 a.2
 have e2 := sqR_le _ _ b.1 b.2
 unfold Len
 omega
theorem block_len (H : PlF fo b p lo ke sc mo L n B) (hs : sc = 1) (iv : Bool) {ys : List Gi} (hm : ManB p ys) (q : Gi) (hq : q.re = 2 ∨ q.re = 4) : ∀ y ∈ stepV sc p B mo iv (tw n B) ys q, Len (3 * (p / 4)) y := by
 obtain ⟨hmo, _⟩ := H.kinds
 subst hs
 have hw := H.roots iv
 have hp : maxG ys ≤ p := maxG_le ys p (by rcases H.sizes with h | h <;> omega) ((allIn_iff _ _).1 hm.all)
 have hsh : shOf 1 q.re p ys = preOf q.re p (maxG ys) := by unfold shOf; rw [if_neg (by decide), if_pos rfl]
 unfold stepV passV
 rw [hsh]
 clear hsh
 have key2 : ∀ (M R R' : Int) (s : Nat), 0 ≤ M → 0 ≤ R → 0 ≤ R' → maxG ys ≤ M → 2 * (M * M) ≤ R * R → R * 2 ^ B + R * (2 ^ B + 2) ≤ R' * 2 ^ (B + s) → R' + 2 ≤ 3 * (p / 4) → ∀ y ∈ twoL ys (tw n B) q.im.toNat B s mo iv, Len (3 * (p / 4)) y :=
  fun M R R' s h0 h1 h2 h3 h4 h5 h6 y hy => Len.mono (by omega) (two_len hmo h1 h2 (getD_len h0 h4 h3) hw h5 y hy) h6
 have key4 : ∀ (M R R' : Int) (s : Nat), 0 ≤ M → 0 ≤ R → 0 ≤ R' → maxG ys ≤ M → 2 * (M * M) ≤ R * R → R * 2 ^ B + R * (2 ^ B + 2) + R * (2 ^ B + 2) + R * (2 ^ B + 2) ≤ R' * 2 ^ (B + s) → R' + 2 ≤ 3 * (p / 4) → ∀ y ∈ fourL ys (tw n B) q.im.toNat B s mo iv, Len (3 * (p / 4)) y :=
  fun M R R' s h0 h1 h2 h3 h4 h5 h6 y hy => Len.mono (by omega) (four_len hmo h1 h2 (getD_len h0 h4 h3) hw h5 y hy) h6
 generalize maxG ys = m at *
 rcases H.sizes with ⟨_, _, rfl, rfl⟩ | ⟨_, _, rfl, rfl⟩
 ·rcases hq with e | e
  ·rw [if_neg (by omega), e]
   unfold preOf
   rw [if_neg (by decide)]
   by_cases c1 : m ≤ 32768 / 4
   ·rw [if_pos c1]
    exact key2 8192 11586 23176 0 (by decide) (by decide) (by decide) (by omega) (by decide) (by decide) (by decide)
   ·rw [if_neg c1]
    by_cases c2 : m ≤ 32768 / 2
    ·rw [if_pos c2]
     exact key2 16384 23171 23176 1 (by decide) (by decide) (by decide) (by omega) (by decide) (by decide) (by decide)
    ·rw [if_neg c2]
     exact key2 32768 46341 23176 2 (by decide) (by decide) (by decide) (by omega) (by decide) (by decide) (by decide)
  ·rw [if_pos e, e]
   unfold preOf
   rw [if_pos rfl]
   by_cases c0 : m ≤ 32768 / 8
   ·rw [if_pos c0]
    exact key4 4096 5793 23180 0 (by decide) (by decide) (by decide) (by omega) (by decide) (by decide) (by decide)
   ·rw [if_neg c0]
    by_cases c1 : m ≤ 32768 / 4
    ·rw [if_pos c1]
     exact key4 8192 11586 23180 1 (by decide) (by decide) (by decide) (by omega) (by decide) (by decide) (by decide)
    ·rw [if_neg c1]
     by_cases c2 : m ≤ 32768 / 2
     ·rw [if_pos c2]
      exact key4 16384 23171 23180 2 (by decide) (by decide) (by decide) (by omega) (by decide) (by decide) (by decide)
     ·rw [if_neg c2]
      exact key4 32768 46341 23180 3 (by decide) (by decide) (by decide) (by omega) (by decide) (by decide) (by decide)
 ·rcases hq with e | e
  ·rw [if_neg (by omega), e]
   unfold preOf
   rw [if_neg (by decide)]
   by_cases c1 : m ≤ 2147483648 / 4
   ·rw [if_pos c1]
    exact key2 536870912 759250125 1518500256 0 (by decide) (by decide) (by decide) (by omega) (by decide) (by decide) (by decide)
   ·rw [if_neg c1]
    by_cases c2 : m ≤ 2147483648 / 2
    ·rw [if_pos c2]
     exact key2 1073741824 1518500250 1518500256 1 (by decide) (by decide) (by decide) (by omega) (by decide) (by decide) (by decide)
    ·rw [if_neg c2]
     exact key2 2147483648 3037000500 1518500256 2 (by decide) (by decide) (by decide) (by omega) (by decide) (by decide) (by decide)
  ·rw [if_pos e, e]
   unfold preOf
   rw [if_pos rfl]
   by_cases c0 : m ≤ 2147483648 / 8
   ·rw [if_pos c0]
    exact key4 268435456 379625063 1518500264 0 (by decide) (by decide) (by decide) (by omega) (by decide) (by decide) (by decide)
   ·rw [if_neg c0]
    by_cases c1 : m ≤ 2147483648 / 4
    ·rw [if_pos c1]
     exact key4 536870912 759250125 1518500264 1 (by decide) (by decide) (by decide) (by omega) (by decide) (by decide) (by decide)
    ·rw [if_neg c1]
     by_cases c2 : m ≤ 2147483648 / 2
     ·rw [if_pos c2]
      exact key4 1073741824 1518500250 1518500264 2 (by decide) (by decide) (by decide) (by omega) (by decide) (by decide) (by decide)
     ·rw [if_neg c2]
      exact key4 2147483648 3037000500 1518500264 3 (by decide) (by decide) (by decide) (by omega) (by decide) (by decide) (by decide)
theorem run_len (H : PlF fo b p lo ke sc mo L n B) (hs : sc ≠ 2) (iv : Bool) (hl : xs.length = n) (hm : ManB p xs) : ∀ y ∈ (runB15 ke lo sc mo p iv L B (tw n B) xs).X, Len (4 * (p / 5)) y := by
 obtain ⟨hmo, hsc, hks, k0, k1⟩ := H.kinds
 obtain ⟨⟨l2, l6⟩, h4, hlen⟩ := H.lens
 have hlo := H.lo
 unfold runB15
 by_cases hke : ke = 2
 ·rw [if_pos hke]
  have hs0 := hks hke
  obtain ⟨R, hR0, hRB, hRp, hR⟩ : ∃ R : Int, 0 ≤ R ∧ R + 30 ≤ 3 * 2 ^ B ∧ R + 30 ≤ 4 * (p / 5) ∧ ∀ y ∈ (readyB ke sc mo p L xs).X, Len R y := by
   have hh : ∀ y ∈ (readyB ke sc mo p L xs).X, Bd (p / 2) y := fun y hy => by
    obtain ⟨a, ha, rfl⟩ := ready_mem H hl hy
    exact bd_iff.2 ((ready_part H hm a ha).2 hs0)
   rcases H.sizes with ⟨_, _, rfl, rfl⟩ | ⟨_, _, rfl, rfl⟩
   ·exact ⟨23171, by decide, by decide, by decide, fun y hy => len_start _ 16384 23171 (by decide) (by omega) (hh y hy)⟩
   ·exact ⟨1518500250, by decide, by decide, by decide, fun y hy => len_start _ 1073741824 1518500250 (by decide) (by omega) (hh y hy)⟩
  have hrl := ready_len H hl
  intro a ha
  obtain ⟨i, hi, rfl⟩ := List.mem_map.1 ha
  have hi := List.mem_range.1 hi
  have := spl_len B mo iv (rootOf (tw n B) iv) (tw n B).length hmo (H.roots iv) L R (fun j => (readyB ke sc mo p L xs).X.getD j ⟨0, 0⟩) hR0 (by omega)
   (fun j hj => by
    have hjl : j < (readyB ke sc mo p L xs).X.length := by rw [hrl, H.n]; exact hj
    rw [List.getD_eq_getElem?_getD, List.getElem?_eq_getElem hjl]
    exact hR _ (List.getElem_mem hjl)) i hi
  exact Len.mono (by omega) this (by omega)
 ·rw [if_neg hke]
  have hfit : ∀ q ∈ passL ke lo, Fits n q := (passL_len7 H).2
  rcases hsc with rfl | rfl | rfl
  ·have hr := ready_half H rfl hl hm
   have h6 := (passL_len7 H).1
   have e : (behindB ke lo 0 mo p iv L B (tw n B) xs (passL ke lo).length).X = ((passL ke lo).take (passL ke lo).length).foldl (stepV 0 p B mo iv (tw n B)) (readyB ke 0 mo p L xs).X := behind_X (by decide) iv (tw n B) _ _
   have hk : ∀ q ∈ (passL ke lo).take (passL ke lo).length, q.re = 2 ∨ q.re = 4 := fun q hq => (hfit q (List.mem_of_mem_take hq)).1
   have hc : ((passL ke lo).take (passL ke lo).length).length ≤ 7 := by rw [List.length_take]; omega
   rw [e, tw_eq]
   rcases H.sizes with ⟨_, _, rfl, rfl⟩ | ⟨_, _, rfl, rfl⟩
   ·have := runV_half15 n hlen mo iv hmo ((passL ke lo).take (passL ke lo).length) _ _ hk hr (by decide) (by omega)
    exact fun y hy => Int.le_trans (this y hy) (by omega)
   ·have := runV_half31 n hlen mo iv hmo ((passL ke lo).take (passL ke lo).length) _ _ hk hr (by decide) (by omega)
    exact fun y hy => Int.le_trans (this y hy) (by omega)
  ·obtain ⟨j, hj⟩ : ∃ j, (passL ke lo).length = j + 1 := by
    have hk : ke = 0 ∨ ke = 1 := by omega
    have hl : lo = 2 ∨ lo = 3 ∨ lo = 4 ∨ lo = 5 ∨ lo = 6 := by omega
    have key : 1 ≤ (passL ke lo).length := by rcases hk with rfl | rfl <;> rcases hl with rfl | rfl | rfl | rfl | rfl <;> decide +kernel
    exact ⟨(passL ke lo).length - 1, by omega⟩
   obtain ⟨q, hq⟩ := get_of_lt (show j < (passL ke lo).length by omega)
   rw [hj, behindB_next hq]
   simp only [nextB, show ¬ ((1 : Int) = 2) by decide, if_false]
   exact fun y hy => Len.mono (by rcases H.sizes with h | h <;> omega) (block_len H rfl iv (behind_man H iv hl hm j (by omega)).2 q (hfit q (List.mem_of_getElem? hq)).1 y hy) (by rcases H.sizes with ⟨_, _, rfl, _⟩ | ⟨_, _, rfl, _⟩ <;> decide)
  ·exact absurd rfl hs
end
theorem unt_man {fo b p lo ke sc mo : Int} {L n T : Nat} (H : PlF fo b p lo ke sc mo L n T) {a c w : Gi} (ha : Len (4 * (p / 5)) a) (hc : Len (4 * (p / 5)) c) (hw : Len (2 ^ T + 2) w) : (-p ≤ (untG T mo a c w).re ∧ (untG T mo a c w).re ≤ p - 1) ∧ (-p ≤ (untG T mo a c w).im ∧ (untG T mo a c w).im ≤ p - 1) := by
 obtain ⟨hmo, _⟩ := H.kinds
 have hsz : (0 : Int) ≤ 4 * (p / 5) ∧ p = 2 ^ (T + 2) ∧ 4 * (p / 5) + 6 ≤ p - 1 ∧ (2 : Int) ^ (T + 2) = 4 * 2 ^ T := by rcases H.sizes with ⟨_, _, rfl, rfl⟩ | ⟨_, _, rfl, rfl⟩ <;> decide
 obtain ⟨h0, h1, h2, h3⟩ := hsz
 have hp := pow_pos2 T
 generalize hR : 4 * (p / 5) = R at *
 have n1 : 0 ≤ (R + R) * 2 ^ T := Int.mul_nonneg (by omega) (by omega)
 have n2 : 0 ≤ (R + R) * (2 ^ T + 2) := Int.mul_nonneg (by omega) (by omega)
 have hsum := Len.add n1 n2 ((Len.add h0 h0 ha hc).scale T) (Len.mul (Int.add_nonneg h0 h0) ((Len.sub h0 h0 ha hc).turn (-1)) hw)
 have hr := Len.rnd (R := R + 4) (T + 2) mo hmo (by omega) (Len.mono (Int.add_nonneg n1 n2) hsum (by
  rw [h3]
  have e : (R + R) * 2 ^ T + (R + R) * (2 ^ T + 2) = R * (4 * 2 ^ T) + 4 * R := by grind
  have e2 : (R + 4) * (4 * 2 ^ T) = R * (4 * 2 ^ T) + 16 * 2 ^ T := by grind
  rw [e, e2]
  omega))
 have hb := bd_iff.1 (Len.bd (by omega) hr)
 unfold untG
 omega
end
section
set_option linter.unusedVariables false
set_option linter.unusedSimpArgs false
set_option maxRecDepth 100000
theorem fold_fits {sc mo p : Int} {B : Nat} {iv : Bool} {ws : List Gi} (hsc : sc = 0 ∨ sc = 1 ∨ sc = 2) (l : List Gi) : ∀ b0 : BV, (∀ q ∈ l, q.re = 2 ∨ q.re = 4) → ∃ ss, (l.foldl (nextB sc mo p iv B ws) b0).sh = b0.sh ++ ss ∧ fitsB sc l ss = true := by
 induction l with
 | nil => exact fun b0 _ => ⟨[], by simp, rfl⟩
 | cons q l ih =>
   intro b0 hq
   obtain ⟨ss, h1, h2⟩ := ih (nextB sc mo p iv B ws b0 q) (fun r hr => hq r (by simp [hr]))
   refine ⟨shOf sc q.re p b0.X :: ss, ?_, ?_⟩
   ·rw [List.foldl_cons, h1]
    simp [nextB]
   ·simp only [fitsB, Bool.and_eq_true]
    refine ⟨fitB_iff.2 ?_, h2⟩
    have h := hq q (by simp)
    unfold shOf preOf topB
    rcases hsc with rfl | rfl | rfl <;> rcases h with h | h <;> rw [h] <;> simp <;> (repeat' split) <;> omega
section
variable {fo b p lo ke sc mo : Int} {L n B : Nat} {xs : List Gi}
theorem run_fits (H : PlF fo b p lo ke sc mo L n B) (iv : Bool) (xs : List Gi) : fitsB sc (passL ke lo) (runB15 ke lo sc mo p iv L B (tw n B) xs).sh = true := by
 obtain ⟨hmo, hsc, _, k0, k1⟩ := H.kinds
 obtain ⟨⟨l2, l6⟩, h4, hlen⟩ := H.lens
 have hlo := H.lo
 unfold runB15
 by_cases hke : ke = 2
 ·rw [if_pos hke]
  unfold passL
  rw [if_pos hke]
  rfl
 ·rw [if_neg hke]
  obtain ⟨ss, h1, h2⟩ := fold_fits (mo := mo) (p := p) (B := B) (iv := iv) (ws := tw n B) hsc (passL ke lo) (readyB ke sc mo p L xs) (fun q hq => (passL_fits ke lo k0 k1 (by omega) (by omega) q hq).1)
  unfold behindB
  rw [List.take_length, h1]
  exact h2
theorem run_pow (H : PlF fo b p lo ke sc mo L n B) (iv : Bool) (xs : List Gi) :
 0 ≤ (runB15 ke lo sc mo p iv L B (tw n B) xs).ex + (if sc = 1 then (room p (maxG xs) : Int) else 0) ∧ (runB15 ke lo sc mo p iv L B (tw n B) xs).ex + (if sc = 1 then (room p (maxG xs) : Int) else 0) ≤ 20 := by
 obtain ⟨hmo, hsc, hks, k0, k1⟩ := H.kinds
 obtain ⟨⟨l2, l6⟩, h4, hlen⟩ := H.lens
 have hlo := H.lo
 have h6 := passL_len6 ke lo k0 k1 (by omega) (by omega)
 unfold runB15
 by_cases hke : ke = 2
 ·rw [if_pos hke, if_neg (by have := hks hke; omega)]
  simp only
  omega
 ·rw [if_neg hke]
  unfold behindB
  rw [List.take_length]
  have h := behind_ex (sc := sc) (mo := mo) (p := p) (B := B) iv (tw n B) (passL ke lo) (readyB ke sc mo p L xs)
  have ex : (readyB ke sc mo p L xs).ex = atFirst sc p xs := rfl
  rw [ex] at h
  unfold atFirst at h
  rcases hsc with rfl | rfl | rfl
  ·rw [if_pos rfl] at h
   rw [if_neg (by decide)]
   omega
  ·rw [if_neg (by decide), if_pos rfl] at h
   rw [if_pos rfl]
   omega
  ·rw [if_neg (by decide), if_neg (by decide)] at h
   rw [if_neg (by decide)]
   omega
end
end
section
set_option linter.unusedVariables false
set_option linter.unusedSimpArgs false
set_option maxRecDepth 100000
theorem Near.conj {e : Int} {pow : Nat} {c V : Gi} (h : Near e pow c V) : Near e pow c.conj V.conj := by
 unfold Near Len gsubS gup Gi.conj at *
 simp only at *
 refine Int.le_trans (Int.le_of_eq ?_) h
 grind
theorem sum_csum (n : Nat) (xs : List Gi) (iv : Bool) (k m : Nat) : sumG n xs iv k m = csum (fun j => gmul (xs.getD j ⟨0, 0⟩) (wv n iv (j * k))) m := rfl
theorem wv_mod (n : Nat) (hn : IsLen n) (iv : Bool) (j k : Nat) : wv n iv (j * (k % n)) = wv n iv (j * k) := by
 have h := wv_again n hn iv (j * (k % n)) (j * (k / n))
 rw [← h]
 congr 1
 have e := Nat.mod_add_div k n
 calc j * (k % n) + n * (j * (k / n)) = j * (k % n + n * (k / n)) := by rw [Nat.mul_add, Nat.mul_left_comm]
  _ = j * k := by rw [e]
def realG (rs : List Int) (u : Nat) : List Gi := rs.map fun r => ⟨r * 2 ^ u, 0⟩
theorem realG_at (rs : List Int) (u j : Nat) : (realG rs u).getD j ⟨0, 0⟩ = ⟨rs.getD j 0 * 2 ^ u, 0⟩ := by
 unfold realG
 rw [List.getD_eq_getElem?_getD, List.getD_eq_getElem?_getD, List.getElem?_map]
 cases rs[j]? <;> simp
section
variable {fo b p lo ke sc mo : Int} {L m B : Nat}
theorem packG_at (rs : List Int) (j : Nat) (hj : j < rs.length / 2) : (packG rs).getD j ⟨0, 0⟩ = ⟨rs.getD (2 * j) 0, rs.getD (2 * j + 1) 0⟩ := by
 unfold packG
 exact getD_map_range hj
theorem up_pack (H : PlF fo b p lo ke sc mo L m B) (rs : List Int) (u : Nat) (hu : (if sc = 1 then (room p (maxG (packG rs)) : Int) else 0) = u) (j : Nat) (hj : j < rs.length / 2) :
 (upX sc p mo (packG rs)).getD j ⟨0, 0⟩ = ⟨rs.getD (2 * j) 0 * 2 ^ u, rs.getD (2 * j + 1) 0 * 2 ^ u⟩ := by
 obtain ⟨hmo, _⟩ := H.kinds
 unfold upX
 by_cases hs : sc = 1
 ·rw [if_pos hs] at hu ⊢
  have hf : atFirst sc p (packG rs) = -(u : Int) := by unfold atFirst; rw [if_neg (by omega), if_pos hs, hu]
  rw [List.getD_eq_getElem?_getD, List.getElem?_map, List.getElem?_eq_getElem (by rw [packG_len]; exact hj)]
  have hp := packG_at rs j hj
  rw [List.getD_eq_getElem?_getD, List.getElem?_eq_getElem (by rw [packG_len]; exact hj)] at hp
  simp only [Option.getD_some] at hp
  simp only [Option.map_some, Option.getD_some, hp, hf]
  unfold shG
  by_cases h0 : u = 0
  ·subst h0
   simp [rnd_none _ mo hmo]
  ·rw [if_neg (by omega), show (-(-(u : Int))).toNat = u by omega]
 ·rw [if_neg hs] at hu ⊢
  have h0 : u = 0 := by omega
  subst h0
  rw [packG_at rs j hj]
  simp
theorem PlF.twice (H : PlF fo b p lo ke sc mo L m B) (h5 : L ≤ 5) : PlF fo b p (lo + 1) ke sc mo (L + 1) (2 * m) B := by
 have hk := okF_iff.1 H.ok
 have hlo := H.lo
 exact ⟨H.fb, okF_iff.2 ⟨⟨hk.1.1, by omega, hk.1.2.2⟩, hk.2⟩, by omega, by rw [H.n, Nat.pow_succ, Nat.mul_comm], H.bits⟩
theorem real_near (H : PlF fo b p lo ke sc mo L m B) (h5 : L ≤ 5) (rs : List Int) (hrl : rs.length = 2 * m) (hm : ManB p (packG rs)) (hs : (runB15 ke lo sc mo p false L B (tw m B) (packG rs)).sat = false)
 (he0 : 0 ≤ ofB sc ke lo (runB15 ke lo sc mo p false L B (tw m B) (packG rs)).sh) (he1 : ofB sc ke lo (runB15 ke lo sc mo p false L B (tw m B) (packG rs)).sh ≤ 16778560)
 (u P : Nat) (hu : (if sc = 1 then (room p (maxG (packG rs)) : Int) else 0) = u) (hP : (runB15 ke lo sc mo p false L B (tw m B) (packG rs)).ex + u = P) (k : Nat) (hk : k ≤ m) :
 Near (ofB sc ke lo (runB15 ke lo sc mo p false L B (tw m B) (packG rs)).sh + 256) (P + 1) (untAt B mo (runB15 ke lo sc mo p false L B (tw m B) (packG rs)).X (tw (2 * m) B) k) (sumG (2 * m) (realG rs u) false k (2 * m)) := by
 obtain ⟨hmo, _⟩ := H.kinds
 obtain ⟨⟨l2, _⟩, h4, hlen⟩ := H.lens
 have hpl : (packG rs).length = m := by rw [packG_len]; omega
 have hm4 : (m : Int) = 4 ∨ (m : Int) = 8 ∨ (m : Int) = 16 ∨ (m : Int) = 32 := by
  have hn := H.n
  have hL : L = 2 ∨ L = 3 ∨ L = 4 ∨ L = 5 := by omega
  rcases hL with rfl | rfl | rfl | rfl <;> simp only [Nat.reducePow] at hn <;> omega
 have h2 := H.twice h5
 have hrm := run_man H false hpl hm
 have hkey := fun i (hi : i < m) => run_key H false hpl hm hs P (by rw [hu]; exact hP) i hi
 have hX : (runB15 ke lo sc mo p false L B (tw m B) (packG rs)).X.length = m := by
  unfold runB15
  split
  ·rw [sL_len, H.n]
  ·exact (behind_man H false hpl hm _ (Nat.le_refl _)).1
 have hlenX := fun i => man_len H hrm i
 generalize (runB15 ke lo sc mo p false L B (tw m B) (packG rs)).sh = sh at *
 generalize (runB15 ke lo sc mo p false L B (tw m B) (packG rs)).X = X at *
 generalize hE : ofB sc ke lo sh = e at *
 unfold untAt
 rw [hX]
 have hkm : k % m < m := Nat.mod_lt _ (by omega)
 have hkm2 : (m - k) % m < m := Nat.mod_lt _ (by omega)
 have hkk : (k + (m - k) % m) % m = 0 := by rw [Nat.add_mod_mod, show k + (m - k) = m by omega, Nat.mod_self]
 have ha := hkey _ hkm
 have hb := (hkey _ hkm2).conj
 have hz : ∀ q, sumG m (upX sc p mo (packG rs)) false (q % m) m = csum (fun j => gmul ⟨rs.getD (2 * j) 0 * 2 ^ u, rs.getD (2 * j + 1) 0 * 2 ^ u⟩ (wv m false (j * q))) m := fun q => by
  rw [sum_csum]
  refine csum_congr fun j hj => ?_
  rw [up_pack H rs u hu j (by omega), wv_mod m hlen]
 have hz2 : sumG m (upX sc p mo (packG rs)) false ((m - k) % m) m = csum (fun j => gmul ⟨rs.getD (2 * j) 0 * 2 ^ u, rs.getD (2 * j + 1) 0 * 2 ^ u⟩ (wv m false (j * ((m - k) % m)))) m := by
  rw [sum_csum]
  refine csum_congr fun j hj => ?_
  rw [up_pack H rs u hu j (by omega)]
 rw [hz k] at ha
 rw [hz2] at hb
 have hW : sumG (2 * m) (realG rs u) false k (2 * m) = csum (fun j => gmul ⟨rs.getD j 0 * 2 ^ u, 0⟩ (wv (2 * m) false (j * k))) (2 * m) := by
  rw [sum_csum]
  exact csum_congr fun j hj => by rw [realG_at]
 rw [hW]
 have hr : ∀ j, -2147483648 ≤ rs.getD j 0 * 2 ^ u ∧ rs.getD j 0 * 2 ^ u ≤ 2147483648 := fun j => by
  by_cases hj : j < 2 * m
  ·have hmu := upX_man H hm
   have hlt : j / 2 < (upX sc p mo (packG rs)).length := by rw [upX_len, hpl]; omega
   have h := hmu _ (getD_mem _ (j / 2) hlt)
   rw [up_pack H rs u hu (j / 2) (by omega)] at h
   simp only at h
   have hp : p ≤ 2147483648 := by rcases H.sizes with h | h <;> omega
   have hj2 : j = 2 * (j / 2) ∨ j = 2 * (j / 2) + 1 := by omega
   rcases hj2 with e | e
   ·rw [e]
    omega
   ·rw [e]
    omega
  ·rw [List.getD_eq_getElem?_getD, List.getElem?_eq_none (by omega)]
   simp
 have hS := unt_sum m (2 * m) hm4 rfl (fun j => rs.getD j 0 * 2 ^ u) 2147483648 (by decide) hr k ((m - k) % m) hkk
 have hw := tw_near h2 false k (by omega)
 have er : rootOf (tw (2 * m) B) false k = (tw (2 * m) B).getD k ⟨0, 0⟩ := rfl
 rw [er] at hw
 have hT : B ≤ 40 := by rcases H.sizes with h | h <;> omega
 have hS0 : (1099511627776 : Int) ≤ 2 ^ (P + 40) := by
  rw [Int.pow_add]
  have : (0 : Int) < 2 ^ P := Int.pow_pos (by decide)
  have e : (2 : Int) ^ 40 = 1099511627776 := rfl
  rw [e]
  omega
 refine unt_near mo hmo he0 (lnP_nonneg p) (dlB_nonneg B) (Int.mul_nonneg (by omega) (by decide)) hT ha hb (hlenX _) (Len.conj (hlenX _)) hw (wv_len (2 * m) h2.lens.2.2 false k) hS ?_
 have heS := Int.mul_le_mul_of_nonneg_right he1 (show (0 : Int) ≤ 2 ^ (P + 40) by omega)
 have e2 : 2 * e * 2 ^ (P + 40) = 2 * (e * 2 ^ (P + 40)) := Int.mul_assoc _ _ _
 have hRd : lnP p * dlB B ≤ 4373280720000 := by rcases H.sizes with ⟨_, _, rfl, rfl⟩ | ⟨_, _, rfl, rfl⟩ <;> decide
 have h3 := Int.mul_le_mul_of_nonneg_left hRd (show (0 : Int) ≤ 128 * 2 ^ (P + 40) by omega)
 rw [e2]
 generalize (2 : Int) ^ (P + 40) = S at *
 generalize lnP p * dlB B = Rd at *
 generalize e * S = eS at *
 generalize 128 * S * Rd = SR at *
 omega
theorem run_pow5 (H : PlF fo b p lo ke sc mo L m B) (h5 : L ≤ 5) (iv : Bool) (xs : List Gi) :
 0 ≤ (runB15 ke lo sc mo p iv L B (tw m B) xs).ex + (if sc = 1 then (room p (maxG xs) : Int) else 0) ∧ (runB15 ke lo sc mo p iv L B (tw m B) xs).ex + (if sc = 1 then (room p (maxG xs) : Int) else 0) ≤ 19 := by
 refine ⟨(run_pow H iv xs).1, ?_⟩
 obtain ⟨hmo, hsc, hks, k0, k1⟩ := H.kinds
 obtain ⟨⟨l2, l6⟩, h4, hlen⟩ := H.lens
 have hlo := H.lo
 unfold runB15
 by_cases hke : ke = 2
 ·rw [if_pos hke, if_neg (by have := hks hke; omega)]
  simp only
  omega
 ·rw [if_neg hke]
  have h6 : (passL ke lo).length ≤ 5 := by
   have hk : ke = 0 ∨ ke = 1 := by omega
   have hl : lo = 2 ∨ lo = 3 ∨ lo = 4 ∨ lo = 5 := by omega
   rcases hk with rfl | rfl <;> rcases hl with rfl | rfl | rfl | rfl <;> decide +kernel
  unfold behindB
  rw [List.take_length]
  have h := behind_ex (sc := sc) (mo := mo) (p := p) (B := B) iv (tw m B) (passL ke lo) (readyB ke sc mo p L xs)
  have ex : (readyB ke sc mo p L xs).ex = atFirst sc p xs := rfl
  rw [ex] at h
  unfold atFirst at h
  rcases hsc with rfl | rfl | rfl
  ·rw [if_pos rfl] at h
   rw [if_neg (by decide)]
   omega
  ·rw [if_neg (by decide), if_pos rfl] at h
   rw [if_pos rfl]
   omega
  ·rw [if_neg (by decide), if_neg (by decide)] at h
   rw [if_neg (by decide)]
   omega
end
end
section
open Go.ChangeShapes Go.WideShapes Go.ChangeAt Go.RowKit
set_option linter.unusedVariables false
set_option linter.unusedSimpArgs false
set_option maxRecDepth 100000
def untB (sc mo p : Int) (B : Nat) (ws : List Gi) (b : BV) : BV :=
 ⟨if sc = 2 then (untL B mo b.X ws).map (clampG p) else untL B mo b.X ws, b.ex + 1, if sc = 2 then b.sat || (untL B mo b.X ws).any (offG p) else b.sat, b.sh⟩
def okR (fo lo ke sc mo : Int) (iv : Bool) : Bool := okF fo lo ke sc mo && decide (lo ≤ 5) && !iv
theorem pow29i {B : Nat} (h : B ≤ 29) : (2 : Int) ^ B ≤ 536870912 := by
 have h1 : ((2 ^ B : Nat) : Int) ≤ ((2 ^ 29 : Nat) : Int) := Int.ofNat_le.2 (Nat.pow_le_pow_right (by decide) h)
 simpa using h1
theorem Bd.wide {a : Gi} (h : Bd 2147483648 a) : a.re.natAbs ≤ 2305843009213693952 ∧ a.im.natAbs ≤ 2305843009213693952 := by have := h.le; omega
theorem Bd.conj {l : Int} {a : Gi} (h : Bd l a) : Bd l a.conj := Bd.mk (by have := h.le; unfold Gi.conj; simp only; omega)
theorem KMap.set {W : World} {B b : Nat} (h : KMap W B) (hne : B ≠ b) (j : Nat) (v : Value) : KMap (W.setCell ⟨b, j, none⟩ v) B := by
 unfold KMap
 rw [Below.heap_setCell _ _ _ _ hne]
 exact h
theorem KMap.ne {W : World} {B b : Nat} {t : TypeId} {c : Array Value} (h : KMap W B) (hc : CellsAt W b t c) : B ≠ b := by
 rintro rfl
 have h1 := (show W.heap[B]? = _ from h).symm.trans (show W.heap[B]? = _ from hc)
 cases h1
theorem CellsAt.set10 {W : World} {B : Nat} {t : TypeId} {a0 a1 a2 a3 a4 a5 a6 a7 a8 a9 : Value} (h : CellsAt W B t #[a0, a1, a2, a3, a4, a5, a6, a7, a8, a9]) (v0 v1 v2 v3 v4 v5 v6 v7 v8 v9 : Value) : CellsAt ((((((((((W.setCell ⟨B, 0, none⟩ v0).setCell ⟨B, 1, none⟩ v1).setCell ⟨B, 2, none⟩ v2).setCell ⟨B, 3, none⟩ v3).setCell ⟨B, 4, none⟩ v4).setCell ⟨B, 5, none⟩ v5).setCell ⟨B, 6, none⟩ v6).setCell ⟨B, 7, none⟩ v7).setCell ⟨B, 8, none⟩ v8).setCell ⟨B, 9, none⟩ v9) B t #[v0, v1, v2, v3, v4, v5, v6, v7, v8, v9] := by
 have := ((((((((((h.set 0 v0).set 1 v1).set 2 v2).set 3 v3).set 4 v4).set 5 v5).set 6 v6).set 7 v7).set 8 v8).set 9 v9)
 simpa using this
theorem apart10 {W : World} {v : Value} {xs : List Gi} {B : Nat} {t : TypeId} {a0 a1 a2 a3 a4 a6 a7 a8 a9 : Value} {b : Bool} (hl : 3 ≤ xs.length) (h : CxsAt W v xs) (hc : CellsAt W B t #[a0, a1, a2, a3, a4, .bool b, a6, a7, a8, a9]) : Apart v xs B := by
 rintro b0 o cap rfl hne rfl
 obtain ⟨b', o', cap', e, _, _, hx⟩ := h.at hne
 cases e
 obtain ⟨x0, h0⟩ := get_of_lt (show 0 < xs.length by omega)
 obtain ⟨x1, h1⟩ := get_of_lt (show 1 < xs.length by omega)
 obtain ⟨x2, h2⟩ := get_of_lt (show 2 < xs.length by omega)
 have e0 := hx 0 x0 h0
 have e1 := hx 1 x1 h1
 have e2 := hx 2 x2 h2
 rw [hc.cell, hc.cell] at e0 e1 e2
 have ho : o = 0 ∨ o = 1 ∨ o = 2 ∨ o = 3 ∨ o = 4 ∨ o = 5 ∨ 6 ≤ o := by omega
 rcases ho with rfl | rfl | rfl | rfl | rfl | rfl | ho
 all_goals first | (simp at e0; done) | (simp at e1; done) | (simp at e2; done) | skip
 rw [Array.getElem?_eq_none (by simp; omega)] at e2
 cases e2.1
def shF (sc : Int) : FuncId := if sc = 0 then 258 else if sc = 1 then 261 else 266
def fiF (sc : Int) : FuncId := if sc = 0 then 257 else if sc = 1 then 260 else 265
def ahF (sc : Int) : FuncId := if sc = 0 then 256 else if sc = 1 then 259 else 264
def psF (k : Int) : FuncId := if k = 4 then 155 else 154
set_option maxHeartbeats 4000000 in
theorem ftOf_c (fo lo ke sc mo b b2 : Int) (sT : TypeId) (sV : Value) (iv : Bool) (ws : List Gi) (hws : 3 ≤ ws.length) (hb : IntKind.i64.wrap (b - 2) = b2) (HB : CR 58 #[.int .i64 fo] (.tuple #[.int .i64 b, .int .i64 0]))
 (HT : Hid (∀ W, Calls Tryz.prog 113 #[.int .i64 lo, .int .i64 fo] W fun e w' => ∃ v, e = .returned (.tuple #[v, .int .i64 0]) ∧ CxsAt w' v ws ∧ Gr W w'))
 (HS : CR 105 #[.agg #[.int .i64 fo, .int .i64 lo, .int .i64 ke, .int .i64 sc, .int .i64 mo, .bool iv]] (.iface sT sV))
 (HK : Hid (∀ W, Calls Tryz.prog 114 #[] W fun e w' => ∃ B, e = .returned (.map (some B)) ∧ KMap w' B ∧ Gr W w')) (w : World) :
 Calls Tryz.prog 65 #[.agg #[.int .i64 fo, .int .i64 lo, .int .i64 ke, .int .i64 sc, .int .i64 mo, .bool iv]] w fun e w' => ∃ B v, e = .returned (.agg #[.int .i64 fo, .int .i64 lo, .int .i64 ke, .int .i64 sc, .int .i64 mo, .bool iv, .iface sT sV, .map (some B), v, .int .i64 b2]) ∧ KMap w' B ∧ CxsAt w' v ws ∧ Gr w w' := by
 go_enter Tryz.func65, Tryz.ntmps65
 go_wp2_with fail
 obtain ⟨u0, hU⟩ : ∃ uu, uu = ((w.alloc (.cells #[.int .i64 fo, .int .i64 lo, .int .i64 ke, .int .i64 sc, .int .i64 mo, .bool iv] 24)).alloc (.cells #[.int .i64 0, .int .i64 0, .int .i64 0, .int .i64 0, .int .i64 0, .bool false, .nilIface, .map none, .slice none 0 0, .int .i64 0] 86)) := ⟨_, rfl⟩
 have ⟨gu, R0, R1⟩ := lay2 hU
 rw [← hU]
 clear hU
 have lp := R0.lt
 have lr := R1.lt
 obtain ⟨cp0, cp1, cp2, cp3, cp4, cp5⟩ := R0.t6
 go_wp2_with fail
 clear cp0 cp1 cp2 cp3 cp4 cp5
 refine (HB.out _).mono ?_
 rintro e w1 ⟨rfl, g1⟩
 have ⟨Fp_1, lp_1⟩ := CellsAt.gl (R0) g1
 have ⟨Fr_1, lr_1⟩ := CellsAt.gl (R1) g1
 have z1 := (gu).trans g1
 clear R0 R1 gu g1
 obtain ⟨cp0, cp1, cp2, cp3, cp4, cp5⟩ := Fp_1.t6
 go_wp2_with fail
 clear cp0 cp1 cp2 cp3 cp4 cp5
 refine (HT.out _).mono ?_
 rintro e w2 ⟨vw, rfl, hw, g2⟩
 have ⟨Fp_2, lp_2⟩ := CellsAt.gl (Fp_1) g2
 have ⟨Fr_2, lr_2⟩ := CellsAt.gl (Fr_1) g2
 have z2 := (z1).trans g2
 clear Fp_1 Fr_1 z1 g2
 obtain ⟨wp, wc, rfl⟩ := hw.len
 go_wp2_with fail
 obtain ⟨ub, hqp1⟩ : ∃ zz, zz = w2 := ⟨_, rfl⟩
 have Yp_p1 : CellsAt ub (w.heap.size) 24 #[.int .i64 fo, .int .i64 lo, .int .i64 ke, .int .i64 sc, .int .i64 mo, .bool iv] := by rw [hqp1]; first | exact Fp_2 | simpa using Fp_2
 have Yr_p1 : CellsAt ub (w.heap.size + 1) 86 #[.int .i64 0, .int .i64 0, .int .i64 0, .int .i64 0, .int .i64 0, .bool false, .nilIface, .map none, .slice none 0 0, .int .i64 0] := by rw [hqp1]; first | exact Fr_2 | simpa using Fr_2
 have Vw_p1 := hw
 rw [← hqp1] at Vw_p1
 have yp1 : Gr w ub := by rw [hqp1]; exact z2
 rw [← hqp1]
 clear hqp1
 have KS : ∀ W, GB (w.heap.size + 1) ub W → (W.cell? ⟨w.heap.size, 0, none⟩ = some (.int .i64 fo) ∧ W.cell? ⟨w.heap.size, 1, none⟩ = some (.int .i64 lo) ∧ W.cell? ⟨w.heap.size, 2, none⟩ = some (.int .i64 ke) ∧ W.cell? ⟨w.heap.size, 3, none⟩ = some (.int .i64 sc) ∧ W.cell? ⟨w.heap.size, 4, none⟩ = some (.int .i64 mo) ∧ W.cell? ⟨w.heap.size, 5, none⟩ = some (.bool iv)) := fun W hG => ⟨(GB.cellsAt hG Yp_p1 (by omega)).cell 0, (GB.cellsAt hG Yp_p1 (by omega)).cell 1, (GB.cellsAt hG Yp_p1 (by omega)).cell 2, (GB.cellsAt hG Yp_p1 (by omega)).cell 3, (GB.cellsAt hG Yp_p1 (by omega)).cell 4, (GB.cellsAt hG Yp_p1 (by omega)).cell 5⟩
 have hclG := gb_closed (w.heap.size + 1) ub
 try simp only [List.append_eq, List.cons_append, List.nil_append]
 refine wp_region_grow (S := GB (w.heap.size + 1) ub) rfl (GB.drew (GB.refl _ _)) ?_
 refine gK 0 hclG KS ?_
 refine gK 1 hclG KS ?_
 refine wpG_call (i := 2) hclG rfl (by kernel_rfl) (by kernel_rfl) (by kernel_rfl) (fun _ _ _ h => h) ((fun W hS => HS.out W)) (by rfl) ?_ ?_
 ·(intro w' hSw; go_simp; try with_reducible rfl)
 try simp only [Act.put, putS]
 refine gT 4 hclG ?_
 refine gT 5 hclG ?_
 refine gT 6 hclG ?_
 refine wpG_ready (rs := [3]) (by kernel_rfl) (by simp) (fun w3 g3 s3 => ?_)
 refine AllG.cons rfl (fun K hK => ?_) AllG.nil
 replace g3 := (Gr.drew (Gr.refl ub)).trans g3
 have ⟨Fp_3, lp_3⟩ := CellsAt.gl (Yp_p1) g3
 have ⟨Fr_3, lr_3⟩ := CellsAt.gl (Yr_p1) g3
 have Kw_3 := CxsAt.gr (Vw_p1) g3
 have z3 := (yp1).trans g3
 clear Yp_p1 Yr_p1 yp1 g3
 go_simp
 refine (HK.out w3).mono ?_
 rintro e w4 ⟨vB, rfl, hB, g4⟩
 have hneK := KMap.ne hB (CellsAt.gr (Fr_3) g4)
 have t4 := GB.gr s3 g4
 have ⟨Fp_4, lp_4⟩ := CellsAt.gl (Fp_3) g4
 have ⟨Fr_4, lr_4⟩ := CellsAt.gl (Fr_3) g4
 have Kw_4 := CxsAt.gr (Kw_3) g4
 have z4 := (z3).trans g4
 clear Fp_3 Fr_3 z3 g4
 refine hK.out _ _ ?_ ?_
 ·exact t4
 clear hK K
 try simp only [Act.put, putS]
 refine gT 7 hclG ?_
 refine wpG_ready (rs := [8]) (by kernel_rfl) (by simp) (fun w5 g5 s5 => ?_)
 refine AllG.cons rfl (fun K hK => ?_) AllG.nil
 have ⟨Fp_5, lp_5⟩ := CellsAt.gl (Fp_4) g5
 have ⟨Fr_5, lr_5⟩ := CellsAt.gl (Fr_4) g5
 have Kw_5 := CxsAt.gr (Kw_4) g5
 have MK_5 := KMap.gr (hB) g5
 have z5 := (z4).trans g5
 clear Fp_4 Fr_4 z4 g5
 have mr0 := CellsAt.frozen (Fr_5) 0
 have cr0 := Fr_5.at 0
 have mr1 := CellsAt.frozen (Fr_5) 1
 have cr1 := Fr_5.at 1
 have mr2 := CellsAt.frozen (Fr_5) 2
 have cr2 := Fr_5.at 2
 have mr3 := CellsAt.frozen (Fr_5) 3
 have cr3 := Fr_5.at 3
 have mr4 := CellsAt.frozen (Fr_5) 4
 have cr4 := Fr_5.at 4
 have mr5 := CellsAt.frozen (Fr_5) 5
 have cr5 := Fr_5.at 5
 have mr6 := CellsAt.frozen (Fr_5) 6
 have cr6 := Fr_5.at 6
 have mr7 := CellsAt.frozen (Fr_5) 7
 have cr7 := Fr_5.at 7
 have mr8 := CellsAt.frozen (Fr_5) 8
 have cr8 := Fr_5.at 8
 have mr9 := CellsAt.frozen (Fr_5) 9
 have cr9 := Fr_5.at 9
 go_simp
 clear mr0 cr0 mr1 cr1 mr2 cr2 mr3 cr3 mr4 cr4 mr5 cr5 mr6 cr6 mr7 cr7 mr8 cr8 mr9 cr9
 have Aw_5 := apart10 hws Kw_5 Fr_5
 refine hK.out _ _ ?_ ?_
 ·exact (GB.set (GB.set (GB.set (GB.set (GB.set (GB.set (GB.set (GB.set (GB.set (GB.set s5 _ _) _ _) _ _) _ _) _ _) _ _) _ _) _ _) _ _) _ _)
 clear hK K
 try simp only [Act.put, putS]
 refine wpG_done (by kernel_rfl) (fun w6 g6 => ?_) _
 have ⟨Fp_6, lp_6⟩ := CellsAt.gl (((((((((((Fp_5).other (by omega) _ _).other (by omega) _ _).other (by omega) _ _).other (by omega) _ _).other (by omega) _ _).other (by omega) _ _).other (by omega) _ _).other (by omega) _ _).other (by omega) _ _).other (by omega) _ _) g6
 have ⟨Fr_6, lr_6⟩ := CellsAt.gl (CellsAt.set10 (Fr_5) _ _ _ _ _ _ _ _ _ _) g6
 have Kw_6 := CxsAt.gr ((CxsAt.set (CxsAt.set (CxsAt.set (CxsAt.set (CxsAt.set (CxsAt.set (CxsAt.set (CxsAt.set (CxsAt.set (CxsAt.set Kw_5 Aw_5 0 (.int .i64 fo)) Aw_5 1 (.int .i64 lo)) Aw_5 2 (.int .i64 ke)) Aw_5 3 (.int .i64 sc)) Aw_5 4 (.int .i64 mo)) Aw_5 5 (.bool iv)) Aw_5 6 (.iface sT sV)) Aw_5 7 (.map (some vB))) Aw_5 8 (.slice wp ws.length wc)) Aw_5 9 (.int .i64 b2))) g6
 have MK_6 := KMap.gr ((KMap.set (KMap.set (KMap.set (KMap.set (KMap.set (KMap.set (KMap.set (KMap.set (KMap.set (KMap.set MK_5 hneK 0 (.int .i64 fo)) hneK 1 (.int .i64 lo)) hneK 2 (.int .i64 ke)) hneK 3 (.int .i64 sc)) hneK 4 (.int .i64 mo)) hneK 5 (.bool iv)) hneK 6 (.iface sT sV)) hneK 7 (.map (some vB))) hneK 8 (.slice wp ws.length wc)) hneK 9 (.int .i64 b2))) g6
 have z6 := (((((((((((z5).setCell (by first | omega | (simp only; omega)) _).setCell (by first | omega | (simp only; omega)) _).setCell (by first | omega | (simp only; omega)) _).setCell (by first | omega | (simp only; omega)) _).setCell (by first | omega | (simp only; omega)) _).setCell (by first | omega | (simp only; omega)) _).setCell (by first | omega | (simp only; omega)) _).setCell (by first | omega | (simp only; omega)) _).setCell (by first | omega | (simp only; omega)) _).setCell (by first | omega | (simp only; omega)) _).trans g6
 clear g6
 clear hclG KS
 obtain ⟨cr0, cr1, cr2, cr3, cr4, cr5, cr6, cr7, cr8, cr9⟩ := Fr_6.t10
 go_wp2_with fail
 clear cr0 cr1 cr2 cr3 cr4 cr5 cr6 cr7 cr8 cr9
 refine bodyPost_ret (v := .agg #[.int .i64 fo, .int .i64 lo, .int .i64 ke, .int .i64 sc, .int .i64 mo, .bool iv, .iface sT sV, .map (some vB), .slice wp ws.length wc, .int .i64 b2]) ?_ rfl ⟨_, _, rfl, MK_6, Kw_6, z6⟩
 obtain ⟨cr0, cr1, cr2, cr3, cr4, cr5, cr6, cr7, cr8, cr9⟩ := Fr_6.t10
 simp [results, Tryz.results65, go_sem, *]
end
end Go.Proofs.YtdignnmpfkgkoaaGreat
