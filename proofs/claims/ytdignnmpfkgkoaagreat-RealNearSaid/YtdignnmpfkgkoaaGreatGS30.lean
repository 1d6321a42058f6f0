import Derived.Test.YtdignnmpfkgkoaaGreatGS29
namespace Go.Proofs.YtdignnmpfkgkoaaGreat
section
set_option linter.unusedVariables false
set_option linter.unusedSimpArgs false
set_option maxRecDepth 100000
section
variable {fo b p lo ke sc mo : Int} {L n B : Nat} {xs : List Gi}
theorem pre_room (H : PlF fo b p lo ke sc mo L n B) (iv : Bool) (hl : xs.length = n) (hm : ManB p xs) (pre : List Gi) (q : Gi) (suf : List Gi) (pow : Nat) (e : passL ke lo = pre ++ q :: suf) :
 Room sc p (dlB B) (lnP p) (32 * lnP p) (pre.foldl (nextB sc mo p iv B (tw n B)) (readyB ke sc mo p L xs)) q pow := by
 obtain ⟨hmo, hsc, _, k0, k1⟩ := H.kinds
 obtain ⟨⟨l2, l6⟩, h4, hlen⟩ := H.lens
 have hlo := H.lo
 have hfit := passL_fits ke lo k0 k1 (by omega) (by omega) q (by rw [e]; simp)
 rw [show lo.toNat = L by omega, ← H.n] at hfit
 obtain ⟨hre, h, u, e1, h1, hu, e2⟩ := hfit
 have hh : h ≤ 32 := by
  have c : (h : Int) ≤ h * u := by
   have := Int.mul_le_mul_of_nonneg_left (show (1 : Int) ≤ u by omega) (show (0 : Int) ≤ h by omega)
   omega
  rcases hre with r | r <;> rw [r, Int.mul_assoc] at e2 <;> omega
 have hpre : pre.foldl (nextB sc mo p iv B (tw n B)) (readyB ke sc mo p L xs) = behindB ke lo sc mo p iv L B (tw n B) xs pre.length := by
  unfold behindB
  rw [e, List.take_left]
 have hj : pre.length ≤ (passL ke lo).length := by rw [e]; simp
 rw [hpre]
 obtain ⟨hYl, hYm⟩ := behind_man H iv hl hm pre.length hj
 have i0 : 0 ≤ q.im := by omega
 have i1 : q.im ≤ 32 := by omega
 have hX0 := lnP_nonneg p
 rcases hsc with rfl | rfl | rfl
 ·have hH := half_len H rfl iv hl hm pre.length hj
  generalize (behindB ke lo 0 mo p iv L B (tw n B) xs pre.length) = c at *
  rcases H.sizes with ⟨_, _, rfl, rfl⟩ | ⟨_, _, rfl, rfl⟩ <;> rcases hre with r | r <;> refine room_of (by decide) hH hX0 i0 i1 ?_ <;> rw [show ∀ pp, shOf 0 q.re pp c.X = if q.re = 4 then 2 else 1 from fun _ => rfl, r] <;> decide
 ·generalize (behindB ke lo 1 mo p iv L B (tw n B) xs pre.length) = c at *
  have hg : ∀ a ∈ c.X, (-(maxG c.X) ≤ a.re ∧ a.re ≤ maxG c.X) ∧ (-(maxG c.X) ≤ a.im ∧ a.im ≤ maxG c.X) := fun a ha => by
   have := maxG_ge c.X a ha
   exact ⟨absI_le.1 this.1, absI_le.1 this.2⟩
  have es : shOf 1 q.re p c.X = preOf q.re p (maxG c.X) := rfl
  have hp : maxG c.X ≤ p := maxG_le c.X p (by rcases H.sizes with h | h <;> omega) (man_bd hYm)
  have key : ∀ (M R : Int), 0 ≤ M → 0 ≤ R → 2 * (M * M) ≤ R * R → maxG c.X ≤ M → (q.re - 1) * (64 * (R * dlB B) + 1000000000 + 3072 * lnP p) ≤ (addB q.re 1 - 92) * 2 ^ (preOf q.re p (maxG c.X)).toNat * 1099511627776 → Room 1 p (dlB B) (lnP p) (32 * lnP p) c q pow := fun M R hM hR hMR hc h => by
   refine room_of hR (len_of_bd hM hMR fun a ha => ?_) hX0 i0 i1 (by rw [es]; exact h)
   have := hg a ha
   omega
  generalize maxG c.X = m at *
  rcases H.sizes with ⟨_, _, rfl, rfl⟩ | ⟨_, _, rfl, rfl⟩ <;> rcases hre with r | r <;> rw [r] at key <;> unfold preOf at key
  ·by_cases c1 : m ≤ 32768 / 4
   ·exact key 8192 11586 (by decide) (by decide) (by decide) (by omega) (by rw [if_neg (by decide), if_pos c1]; decide)
   ·by_cases c2 : m ≤ 32768 / 2
    ·exact key 16384 23171 (by decide) (by decide) (by decide) (by omega) (by rw [if_neg (by decide), if_neg c1, if_pos c2]; decide)
    ·exact key 32768 46341 (by decide) (by decide) (by decide) (by omega) (by rw [if_neg (by decide), if_neg c1, if_neg c2]; decide)
  ·by_cases c0 : m ≤ 32768 / 8
   ·exact key 4096 5793 (by decide) (by decide) (by decide) (by omega) (by rw [if_pos rfl, if_pos c0]; decide)
   ·by_cases c1 : m ≤ 32768 / 4
    ·exact key 8192 11586 (by decide) (by decide) (by decide) (by omega) (by rw [if_pos rfl, if_neg c0, if_pos c1]; decide)
    ·by_cases c2 : m ≤ 32768 / 2
     ·exact key 16384 23171 (by decide) (by decide) (by decide) (by omega) (by rw [if_pos rfl, if_neg c0, if_neg c1, if_pos c2]; decide)
     ·exact key 32768 46341 (by decide) (by decide) (by decide) (by omega) (by rw [if_pos rfl, if_neg c0, if_neg c1, if_neg c2]; decide)
  ·by_cases c1 : m ≤ 2147483648 / 4
   ·exact key 536870912 759250125 (by decide) (by decide) (by decide) (by omega) (by rw [if_neg (by decide), if_pos c1]; decide)
   ·by_cases c2 : m ≤ 2147483648 / 2
    ·exact key 1073741824 1518500250 (by decide) (by decide) (by decide) (by omega) (by rw [if_neg (by decide), if_neg c1, if_pos c2]; decide)
    ·exact key 2147483648 3037000500 (by decide) (by decide) (by decide) (by omega) (by rw [if_neg (by decide), if_neg c1, if_neg c2]; decide)
  ·by_cases c0 : m ≤ 2147483648 / 8
   ·exact key 268435456 379625063 (by decide) (by decide) (by decide) (by omega) (by rw [if_pos rfl, if_pos c0]; decide)
   ·by_cases c1 : m ≤ 2147483648 / 4
    ·exact key 536870912 759250125 (by decide) (by decide) (by decide) (by omega) (by rw [if_pos rfl, if_neg c0, if_pos c1]; decide)
    ·by_cases c2 : m ≤ 2147483648 / 2
     ·exact key 1073741824 1518500250 (by decide) (by decide) (by decide) (by omega) (by rw [if_pos rfl, if_neg c0, if_neg c1, if_pos c2]; decide)
     ·exact key 2147483648 3037000500 (by decide) (by decide) (by decide) (by omega) (by rw [if_pos rfl, if_neg c0, if_neg c1, if_neg c2]; decide)
 ·have hH := man_len H hYm
  generalize (behindB ke lo 2 mo p iv L B (tw n B) xs pre.length) = c at *
  rcases H.sizes with ⟨_, _, rfl, rfl⟩ | ⟨_, _, rfl, rfl⟩ <;> rcases hre with r | r <;> refine room_of (by decide) hH hX0 i0 i1 ?_ <;> rw [show ∀ pp, shOf 2 q.re pp c.X = 0 from fun _ => rfl, r] <;> decide
theorem first_near (H : PlF fo b p lo ke sc mo L n B) (hke : ke ≠ 2) (iv : Bool) (hl : xs.length = n) :
 NearL (startB sc) (if sc = 0 then 1 else 0) n L (upX sc p mo xs) iv 0 (readyB ke sc mo p L xs).X := by
 obtain ⟨hmo, hsc, _, k0, k1⟩ := H.kinds
 obtain ⟨⟨l2, l6⟩, h4, hlen⟩ := H.lens
 intro i hi
 have hn2 := H.n
 have hf := fl_lt L i
 rw [idG_start n L hlen hn2]
 have e : (readyB ke sc mo p L xs).X.getD i ⟨0, 0⟩ = shG (atFirst sc p xs) mo (xs.getD (fl L i) ⟨0, 0⟩) := by
  unfold readyB flipL
  rw [if_neg hke, List.map_map, ← hn2, getD_map_range hi]
  rfl
 rw [e]
 rcases hsc with rfl | rfl | rfl
 ·rw [if_pos rfl]
  exact near_first mo hmo _
 ·rw [if_neg (by decide)]
  have e2 : (upX 1 p mo xs).getD (fl L i) ⟨0, 0⟩ = shG (atFirst 1 p xs) mo (xs.getD (fl L i) ⟨0, 0⟩) := by
   unfold upX
   rw [if_pos rfl, List.getD_eq_getElem?_getD, List.getD_eq_getElem?_getD, List.getElem?_map, List.getElem?_eq_getElem (by omega)]
   rfl
  rw [e2]
  exact near_same _
 ·rw [if_neg (by decide)]
  have e2 : shG (atFirst 2 p xs) mo (xs.getD (fl L i) ⟨0, 0⟩) = xs.getD (fl L i) ⟨0, 0⟩ := by
   simp only [atFirst, shG, show ¬ ((2 : Int) = 0) by decide, show ¬ ((2 : Int) = 1) by decide, if_false, Int.le_refl, if_true, Int.toNat_zero, rnd_none _ mo hmo]
  rw [e2]
  exact near_same _
theorem passes_near (H : PlF fo b p lo ke sc mo L n B) (hke : ke ≠ 2) (iv : Bool) (hl : xs.length = n) (hm : ManB p xs) (hs : (runB15 ke lo sc mo p iv L B (tw n B) xs).sat = false) :
 1 ≤ ofB sc ke lo (runB15 ke lo sc mo p iv L B (tw n B) xs).sh ∧ NearL (ofB sc ke lo (runB15 ke lo sc mo p iv L B (tw n B) xs).sh - 1) ((runB15 ke lo sc mo p iv L B (tw n B) xs).ex + (if sc = 1 then (room p (maxG xs) : Int) else 0)).toNat n L (upX sc p mo xs) iv L (runB15 ke lo sc mo p iv L B (tw n B) xs).X := by
 obtain ⟨hmo, hsc, _, k0, k1⟩ := H.kinds
 obtain ⟨⟨l2, l6⟩, h4, hlen⟩ := H.lens
 have hlo := H.lo
 have hn2 := H.n
 have h6 := passL_len6 ke lo k0 k1 (by omega) (by omega)
 have er : runB15 ke lo sc mo p iv L B (tw n B) xs = (passL ke lo).foldl (nextB sc mo p iv B (tw n B)) (readyB ke sc mo p L xs) := by
  unfold runB15 behindB
  rw [if_neg hke, List.take_length]
 rw [er] at hs ⊢
 have hch := passL_chain ke lo (by omega) (by omega) (by omega)
 rw [show lo.toNat = L by omega, ← hn2] at hch
 have hB : B ≤ 40 := by rcases H.sizes with h | h <;> omega
 have h46 : (4 : Int) ^ (passL ke lo).length ≤ 4096 := by
  have : (4 : Int) ^ (passL ke lo).length ≤ 4 ^ 6 := by exact_mod_cast Nat.pow_le_pow_right (n := 4) (by omega) h6
  exact this
 have hst : 0 ≤ startB sc ∧ startB sc ≤ 91 := by unfold startB; split <;> decide
 have F := (fold_near hlen hn2 hmo (dlB_nonneg B) (lnP_nonneg p) hB (fun j => man_len H (upX_man H hm) j) (fun k hk => tw_near H iv k hk) (passL ke lo) 0 (readyB ke sc mo p L xs) (startB sc) 0 91 (if sc = 0 then 1 else 0) (by decide) hst.1
  hch (by omega) hst.1 hst.2 (by omega) (ready_len H hl) (by rw [Int.sub_zero]; exact first_near H hke iv hl) hs (fun pre q suf e => pre_room H iv hl hm pre q suf _ e)).out
 obtain ⟨ss, g1, g2, g3, _, g5⟩ := F
 have hne : passL ke lo ≠ [] := by
  have hk : ke = 0 ∨ ke = 1 := by omega
  have hl : lo = 2 ∨ lo = 3 ∨ lo = 4 ∨ lo = 5 ∨ lo = 6 := by omega
  rcases hk with rfl | rfl <;> rcases hl with rfl | rfl | rfl | rfl | rfl <;> decide +kernel
 rw [if_neg hne] at g3
 replace g5 := g5.resolve_left hne
 have eo : ofB sc ke lo ((passL ke lo).foldl (nextB sc mo p iv B (tw n B)) (readyB ke sc mo p L xs)).sh = runB sc (startB sc) (passL ke lo) ss := by
  rw [g1]
  unfold ofB
  rw [if_neg hke, Int.add_zero]
  rfl
 have ex : (readyB ke sc mo p L xs).ex = atFirst sc p xs := rfl
 rw [eo]
 rw [ex] at g2 g3
 generalize ((passL ke lo).foldl (nextB sc mo p iv B (tw n B)) (readyB ke sc mo p L xs)).ex = E at *
 have ep : (if sc = 0 then 1 else 0) + (E - atFirst sc p xs).toNat = (E + (if sc = 1 then (room p (maxG xs) : Int) else 0)).toNat := by
  unfold atFirst at g2 ⊢
  rcases hsc with rfl | rfl | rfl
  ·rw [if_pos rfl] at g2
   rw [if_pos rfl, if_pos rfl, if_neg (by decide)]
   omega
  ·rw [if_neg (by decide), if_pos rfl] at g2
   rw [if_neg (by decide), if_neg (by decide), if_pos rfl, if_pos rfl]
   omega
  ·rw [if_neg (by decide), if_neg (by decide)] at g2
   rw [if_neg (by decide), if_neg (by decide), if_neg (by decide), if_neg (by decide)]
   omega
 rw [ep] at g3
 exact ⟨g5, g3⟩
end
end
section
set_option linter.unusedVariables false
set_option linter.unusedSimpArgs false
set_option maxRecDepth 100000
theorem near_far {e : Int} {pow : Nat} {c V : Gi} (he : 0 ≤ e) (h : Near e pow c V) :
 (-(e * 2 ^ (pow + 2)) ≤ c.re * 2 ^ (pow + 8) - V.re / 4294967296 ∧ c.re * 2 ^ (pow + 8) - V.re / 4294967296 ≤ e * 2 ^ (pow + 2)) ∧
 (-(e * 2 ^ (pow + 2)) ≤ c.im * 2 ^ (pow + 8) - V.im / 4294967296 ∧ c.im * 2 ^ (pow + 8) - V.im / 4294967296 ≤ e * 2 ^ (pow + 2)) := by
 have hp : (0 : Int) < 2 ^ (pow + 40) := Int.pow_pos (by decide)
 have hb := bd_iff.1 (Len.bd (Int.mul_nonneg he (Int.le_of_lt hp)) h)
 simp only [gsubS, gup] at hb
 have e1 : (2 : Int) ^ (pow + 40) = 2 ^ (pow + 2) * 274877906944 := by rw [show pow + 40 = (pow + 2) + 38 by omega, Int.pow_add]; rfl
 have e2 : (2 : Int) ^ (pow + 8) = 2 ^ (pow + 2) * 64 := by rw [show pow + 8 = (pow + 2) + 6 by omega, Int.pow_add]; rfl
 rw [e1] at hb
 rw [e2]
 generalize (2 : Int) ^ (pow + 2) = P at *
 rw [show e * (P * 274877906944) = 274877906944 * (e * P) by grind, show c.re * (64 * (P * 274877906944)) = 17592186044416 * (c.re * P) by grind, show c.im * (64 * (P * 274877906944)) = 17592186044416 * (c.im * P) by grind] at hb
 rw [show c.re * (P * 64) = 64 * (c.re * P) by grind, show c.im * (P * 64) = 64 * (c.im * P) by grind]
 generalize e * P = Q at *
 generalize c.re * P = A at *
 generalize c.im * P = C at *
 omega
theorem csum_sumG (n : Nat) (xs : List Gi) (iv : Bool) (k m : Nat) : csum (fun t => gmul (xs.getD (0 + 1 * t) ⟨0, 0⟩) (wv n iv (0 + 1 * k * t))) m = sumG n xs iv k m := by
 unfold csum sumG termG
 simp only [Nat.zero_add, Nat.one_mul, Nat.mul_comm k]
theorem idG_end (n L : Nat) (hnL : n = 2 ^ L) (xs : List Gi) (iv : Bool) (i : Nat) (hi : i < n) : idG n L xs iv L i = sumG n xs iv i n := by
 unfold idG fsum
 rw [Nat.sub_self, Nat.pow_zero, ← hnL, Nat.mod_eq_of_lt hi, show fl 0 (i / n) = 0 from rfl]
 exact csum_sumG n xs iv i n
theorem spG_end (n L : Nat) (hnL : n = 2 ^ L) (xs : List Gi) (iv : Bool) (i : Nat) : spG n xs iv 0 1 L i = sumG n xs iv i n := by
 unfold spG fsum
 rw [← hnL]
 exact csum_sumG n xs iv i n
section
variable {fo b p lo ke sc mo : Int} {L n B : Nat} {xs : List Gi}
theorem split_run (H : PlF fo b p lo ke sc mo L n B) (hke : ke = 2) (iv : Bool) (hl : xs.length = n) (hm : ManB p xs) (i : Nat) (hi : i < n) :
 Near (spE L) (1 + L) ((sL B mo iv (tw n B) L (readyB ke sc mo p L xs).X).getD i ⟨0, 0⟩) (sumG n xs iv i n) := by
 obtain ⟨hmo, hsc, hks, k0, k1⟩ := H.kinds
 obtain ⟨⟨l2, l6⟩, h4, hlen⟩ := H.lens
 have hn2 := H.n
 have hs := hks hke
 subst hs
 have hH := ready_half H rfl hl hm
 rw [sL_at _ _ _ _ _ _ _ (by omega), tw_len, ← spG_end n L hn2]
 have hf : ∀ j, j < 2 ^ L → Near 91 1 ((readyB ke 0 mo p L xs).X.getD j ⟨0, 0⟩) (gup 1099511627776 (xs.getD (0 + 1 * j) ⟨0, 0⟩)) := fun j hj => by
  have e : (readyB ke 0 mo p L xs).X.getD j ⟨0, 0⟩ = shG 1 mo (xs.getD j ⟨0, 0⟩) := by
   unfold readyB
   rw [if_pos hke, List.getD_eq_getElem?_getD, List.getD_eq_getElem?_getD, List.getElem?_map, List.getElem?_eq_getElem (by omega)]
   rfl
  rw [e, Nat.zero_add, Nat.one_mul]
  exact near_first mo hmo _
 have hx : ∀ j, Len (lnP p) (xs.getD j ⟨0, 0⟩) := fun j => man_len H hm j
 have hW : ∀ k, k < n → Len (dlB B) (gsubS (gup (2 ^ (40 - B)) (rootOf (tw n B) iv k)) (wv n iv k)) := fun k hk => tw_near H iv k hk
 have hWl : ∀ k, Len (2 ^ B + 2) (rootOf (tw n B) iv k) := fun k => roots_len n hlen B (by rcases H.sizes with h | h <;> omega) (by rcases H.sizes with h | h <;> omega) iv k
 have h6 : ∀ l : Nat, l ≤ 5 → l = 0 ∨ l = 1 ∨ l = 2 ∨ l = 3 ∨ l = 4 ∨ l = 5 := fun l h => by omega
 rcases H.sizes with ⟨_, _, rfl, rfl⟩ | ⟨_, _, rfl, rfl⟩
 ·have hR : ∀ j, j < 2 ^ L → Len 23171 ((readyB ke 0 mo 32768 L xs).X.getD j ⟨0, 0⟩) := fun j _ => Int.le_trans (hH.getD (by decide) j) (by decide)
  exact split_near n hlen xs iv mo hmo 13 1 (by decide) (rootOf (tw n 13) iv) 23171 23206 (dlB 13) (lnP 32768) (by decide) (by decide) (by decide) hWl (by decide) (by decide) hx hW
   (fun l h => by rcases h6 l h with rfl | rfl | rfl | rfl | rfl | rfl <;> decide +kernel) L 0 1 _ (by omega) (by omega) hf hR i (by omega)
 ·have hR : ∀ j, j < 2 ^ L → Len 1518500250 ((readyB ke 0 mo 2147483648 L xs).X.getD j ⟨0, 0⟩) := fun j _ => Int.le_trans (hH.getD (by decide) j) (by decide)
  exact split_near n hlen xs iv mo hmo 29 1 (by decide) (rootOf (tw n 29) iv) 1518500250 1518500285 (dlB 29) (lnP 2147483648) (by decide) (by decide) (by decide) hWl (by decide) (by decide) hx hW
   (fun l h => by rcases h6 l h with rfl | rfl | rfl | rfl | rfl | rfl <;> decide +kernel) L 0 1 _ (by omega) (by omega) hf hR i (by omega)
theorem run_key1 (H : PlF fo b p lo ke sc mo L n B) (iv : Bool) (hl : xs.length = n) (hm : ManB p xs) (hs : (runB15 ke lo sc mo p iv L B (tw n B) xs).sat = false)
 (P : Nat) (hP : (runB15 ke lo sc mo p iv L B (tw n B) xs).ex + (if sc = 1 then (room p (maxG xs) : Int) else 0) = P) (k : Nat) (hk : k < n) :
 1 ≤ ofB sc ke lo (runB15 ke lo sc mo p iv L B (tw n B) xs).sh ∧ Near (ofB sc ke lo (runB15 ke lo sc mo p iv L B (tw n B) xs).sh - 1) P ((runB15 ke lo sc mo p iv L B (tw n B) xs).X.getD k ⟨0, 0⟩) (sumG n (upX sc p mo xs) iv k n) := by
 by_cases hke : ke = 2
 ·have hsc := H.kinds.2.2.1 hke
  have h := split_run H hke iv hl hm k hk
  have hlo := H.lo
  subst hke hsc
  have ex : (runB15 2 lo 0 mo p iv L B (tw n B) xs).ex = 1 + lo := rfl
  rw [ex, if_neg (by decide)] at hP
  have eP : P = 1 + L := by omega
  subst eP
  have eo : ofB 0 2 lo (runB15 2 lo 0 mo p iv L B (tw n B) xs).sh = 91 + 224 * (L : Int) := by
   show runB 0 91 [] [] + (if (2 : Int) = 2 then 224 * lo else 0) = 91 + 224 * (L : Int)
   rw [if_pos rfl, hlo]
   rfl
  have hL := H.lens.1
  rw [eo]
  exact ⟨by omega, Near.mono (by unfold spE; omega) h (by unfold spE; omega)⟩
 ·have h := passes_near H hke iv hl hm hs
  have h2 := h.2 k hk
  rw [hP, Int.toNat_natCast, idG_end n L H.n _ iv k hk] at h2
  exact ⟨h.1, h2⟩
theorem run_key (H : PlF fo b p lo ke sc mo L n B) (iv : Bool) (hl : xs.length = n) (hm : ManB p xs) (hs : (runB15 ke lo sc mo p iv L B (tw n B) xs).sat = false)
 (P : Nat) (hP : (runB15 ke lo sc mo p iv L B (tw n B) xs).ex + (if sc = 1 then (room p (maxG xs) : Int) else 0) = P) (k : Nat) (hk : k < n) :
 Near (ofB sc ke lo (runB15 ke lo sc mo p iv L B (tw n B) xs).sh) P ((runB15 ke lo sc mo p iv L B (tw n B) xs).X.getD k ⟨0, 0⟩) (sumG n (upX sc p mo xs) iv k n) := by
 have h := run_key1 H iv hl hm hs P hP k hk
 exact Near.mono (by omega) h.2 (by omega)
end
end
section
set_option linter.unusedVariables false
set_option linter.unusedSimpArgs false
set_option maxRecDepth 100000
theorem unt_id (K T D S : Int) (hK : K = T * D) (a1 a2 b1 b2 V1 V2 U1 U2 w1 w2 A1 A2 W1 Y1 : Int) :
 4 * T * K * (Y1 * (64 * (2 * S)) - W1 * 64) =
  2 * K * S * (64 * (Y1 * (4 * T) - ((a1 + b1) * T + ((a2 - b2) * w1 - -(a1 - b1) * w2)))) + 2 * T * K * ((a1 * (64 * S) - V1 * 64) + (b1 * (64 * S) - U1 * 64)) +
  2 * T * (64 * S) * ((a2 - b2) * (w1 * D - A1) - -(a1 - b1) * (w2 * D - A2)) +
  2 * T * (((a2 * (64 * S) - V2 * 64) - (b2 * (64 * S) - U2 * 64)) * A1 - -((a1 * (64 * S) - V1 * 64) - (b1 * (64 * S) - U1 * 64)) * A2) +
  128 * T * ((V1 + U1) * K + ((V2 - U2) * A1 - -(V1 - U1) * A2) - W1 * (2 * K)) := by
 subst hK
 grind
theorem unt_id2 (K T D S : Int) (hK : K = T * D) (a1 a2 b1 b2 V1 V2 U1 U2 w1 w2 A1 A2 W2 Y2 : Int) :
 4 * T * K * (Y2 * (64 * (2 * S)) - W2 * 64) =
  2 * K * S * (64 * (Y2 * (4 * T) - ((a2 + b2) * T + ((a2 - b2) * w2 + -(a1 - b1) * w1)))) + 2 * T * K * ((a2 * (64 * S) - V2 * 64) + (b2 * (64 * S) - U2 * 64)) +
  2 * T * (64 * S) * ((a2 - b2) * (w2 * D - A2) + -(a1 - b1) * (w1 * D - A1)) +
  2 * T * (((a2 * (64 * S) - V2 * 64) - (b2 * (64 * S) - U2 * 64)) * A2 + -((a1 * (64 * S) - V1 * 64) - (b1 * (64 * S) - U1 * 64)) * A1) +
  128 * T * ((V2 + U2) * K + ((V2 - U2) * A2 + -(V1 - U1) * A1) - W2 * (2 * K)) := by
 subst hK
 grind
theorem unt_near {e R δ H : Int} {pow T : Nat} {a b V U w A W : Gi} (mo : Int) (hm : mo = 0 ∨ mo = 1 ∨ mo = 2) (he : 0 ≤ e) (hR : 0 ≤ R) (hδ : 0 ≤ δ) (hH : 0 ≤ H) (hT : T ≤ 40) (ha : Near e pow a V) (hb : Near e pow b U) (haR : Len R a) (hbR : Len R b)
 (hw : Len δ (gsubS (gup (2 ^ (40 - T)) w) A)) (hA : Len 1099511627777 A) (hU : Len H (gsubS (gadd (gup 1099511627776 (gadd V U)) (gmul (Gi.turn (-1) (gsub V U)) A)) (gup 2199023255552 W)))
 (hroom : 400222232510464 * 2 ^ (pow + 40) + 128 * 2 ^ (pow + 40) * (R * δ) + 2 * e * 2 ^ (pow + 40) + 64 * H ≤ 1125899906842624 * 2 ^ (pow + 40)) :
 Near (e + 256) (pow + 1) (untG T mo a b w) W := by
 have hS : (0 : Int) < 2 ^ (pow + 40) := Int.pow_pos (by decide)
 have hTp : (0 : Int) < 2 ^ T := Int.pow_pos (by decide)
 have hK : (1099511627776 : Int) = 2 ^ T * 2 ^ (40 - T) := by rw [← Int.pow_add, show T + (40 - T) = 40 by omega]; rfl
 have eS : (2 : Int) ^ (pow + 1 + 40) = 2 * 2 ^ (pow + 40) := by rw [show pow + 1 + 40 = (pow + 40) + 1 by omega, Int.pow_succ, Int.mul_comm]
 have eT : (2 : Int) ^ (T + 2) = 4 * 2 ^ T := by rw [Int.pow_add, Int.mul_comm]; rfl
 have hr := gnear_rnd (T + 2) mo hm (gadd (gscale T (gadd a b)) (gmul (Gi.turn (-1) (gsub a b)) w))
 change Len _ (gup 64 (gsubS (gup _ (untG T mo a b w)) _)) at hr
 generalize untG T mo a b w = Y at *
 rw [eT] at hr
 unfold Near at ha hb ⊢
 rw [eS]
 generalize (2 : Int) ^ (pow + 40) = S at *
 generalize (2 : Int) ^ (40 - T) = D at *
 have heS := Int.mul_nonneg he (Int.le_of_lt hS)
 have hRδ := Int.mul_nonneg hR hδ
 have t1 := Len.up (s := 2 * 1099511627776 * S) (by omega) hr
 have t2 := Len.up (s := 2 * 2 ^ T * 1099511627776) (by omega) (Len.add heS heS ha hb)
 have t3 := Len.up (s := 2 * 2 ^ T * (64 * S)) (Int.mul_nonneg (by omega) (by omega)) (Len.mul (Int.add_nonneg hR hR) (Len.turn (Len.sub hR hR haR hbR) (-1)) hw)
 have t4 := Len.up (s := 2 * 2 ^ T) (by omega) (Len.mul (Int.add_nonneg heS heS) (Len.turn (Len.sub heS heS ha hb) (-1)) hA)
 have t5 := Len.up (s := 128 * 2 ^ T) (by omega) hU
 have n1 : 0 ≤ 91 * (4 * 2 ^ T) * (2 * 1099511627776 * S) := Int.mul_nonneg (by omega) (by omega)
 have n2 : 0 ≤ (e * S + e * S) * (2 * 2 ^ T * 1099511627776) := Int.mul_nonneg (by omega) (by omega)
 have n3 : 0 ≤ (R + R) * δ * (2 * 2 ^ T * (64 * S)) := Int.mul_nonneg (Int.mul_nonneg (by omega) hδ) (Int.mul_nonneg (by omega) (by omega))
 have n4 : 0 ≤ (e * S + e * S) * 1099511627777 * (2 * 2 ^ T) := Int.mul_nonneg (by omega) (by omega)
 have n5 : 0 ≤ H * (128 * 2 ^ T) := Int.mul_nonneg hH (by omega)
 have hs := Len.add (Int.add_nonneg (Int.add_nonneg (Int.add_nonneg n1 n2) n3) n4) n5 (Len.add (Int.add_nonneg (Int.add_nonneg n1 n2) n3) n4 (Len.add (Int.add_nonneg n1 n2) n3 (Len.add n1 n2 t1 t2) t3) t4) t5
 have key : gadd (gadd (gadd (gadd (gup (2 * 1099511627776 * S) (gup 64 (gsubS (gup (4 * 2 ^ T) Y) (gadd (gscale T (gadd a b)) (gmul (Gi.turn (-1) (gsub a b)) w))))) (gup (2 * 2 ^ T * 1099511627776) (gadd (gsubS (gup (64 * S) a) (gup 64 V)) (gsubS (gup (64 * S) b) (gup 64 U)))))
  (gup (2 * 2 ^ T * (64 * S)) (gmul (Gi.turn (-1) (gsub a b)) (gsubS (gup D w) A)))) (gup (2 * 2 ^ T) (gmul (Gi.turn (-1) (gsub (gsubS (gup (64 * S) a) (gup 64 V)) (gsubS (gup (64 * S) b) (gup 64 U)))) A)))
  (gup (128 * 2 ^ T) (gsubS (gadd (gup 1099511627776 (gadd V U)) (gmul (Gi.turn (-1) (gsub V U)) A)) (gup 2199023255552 W))) = gup (4 * 2 ^ T * 1099511627776) (gsubS (gup (64 * (2 * S)) Y) (gup 64 W)) := by
  simp only [turn_back, gadd, gsub, gsubS, gup, gmul, gscale, Gi.mk.injEq]
  have i1 := unt_id 1099511627776 (2 ^ T) D S hK a.re a.im b.re b.im V.re V.im U.re U.im w.re w.im A.re A.im W.re Y.re
  have i2 := unt_id2 1099511627776 (2 ^ T) D S hK a.re a.im b.re b.im V.re V.im U.re U.im w.re w.im A.re A.im W.im Y.im
  generalize (2 : Int) ^ T = G at *
  constructor
  ·grind
  ·grind
 rw [key] at hs
 refine Len.down (s := 4 * 2 ^ T * 1099511627776) (by omega) (Len.mono (Int.add_nonneg (Int.add_nonneg (Int.add_nonneg (Int.add_nonneg n1 n2) n3) n4) n5) hs ?_)
 have e1 : 91 * (4 * 2 ^ T) * (2 * 1099511627776 * S) + (e * S + e * S) * (2 * 2 ^ T * 1099511627776) + (R + R) * δ * (2 * 2 ^ T * (64 * S)) + (e * S + e * S) * 1099511627777 * (2 * 2 ^ T) + H * (128 * 2 ^ T) = 2 * 2 ^ T * (400222232510464 * S + 128 * S * (R * δ) + 2 * e * S + 64 * H + 4398046511104 * (e * S)) := by grind
 have e2 : (e + 256) * (2 * S) * (4 * 2 ^ T * 1099511627776) = 2 * 2 ^ T * (1125899906842624 * S + 4398046511104 * (e * S)) := by grind
 rw [e1, e2]
 exact Int.mul_le_mul_of_nonneg_left (by omega) (by omega)
theorem conj_wv (n : Nat) (hn : IsLen n) (j k k' : Nat) (hk : (k + k') % n = 0) : (wv n false (j * k')).conj = wv n false (j * k) := wv_back n hn j k k' hk
theorem wv_twice (m n : Nat) (hm : (m : Int) = 4 ∨ (m : Int) = 8 ∨ (m : Int) = 16 ∨ (m : Int) = 32) (e : (n : Int) = 2 * m) (i : Nat) : wv n false (2 * i) = wv m false i := by
 have h := root_half n m i hm e 16
 unfold wv
 rw [show ((2 * i : Nat) : Int) = (i : Int) * 2 by omega]
 simp only [Bool.false_eq_true, if_false]
 exact h.symm
theorem csum_conj (f : Nat → Gi) : ∀ m, (csum f m).conj = csum (fun t => (f t).conj) m
 | 0 => rfl
 | m + 1 => by
   rw [csum_next, csum_next, ← csum_conj f m]
   apply gi_eq <;> simp only [gadd, Gi.conj] <;> omega
theorem csum_two (f g : Nat → Gi) : ∀ m, gadd (csum f m) (csum g m) = csum (fun t => gadd (f t) (g t)) m
 | 0 => rfl
 | m + 1 => by
   rw [csum_next, csum_next, csum_next, ← csum_two f g m]
   apply gi_eq <;> simp only [gadd] <;> omega
theorem csum_turn1 (f : Nat → Gi) : ∀ m, Gi.turn (-1) (csum f m) = csum (fun t => Gi.turn (-1) (f t)) m
 | 0 => by simp [turn_back, csum, isum]
 | m + 1 => by
   rw [csum_next, csum_next, ← csum_turn1 f m]
   simp only [turn_back]
   apply gi_eq <;> simp only [gadd] <;> omega
theorem csum_less (f g : Nat → Gi) : ∀ m, gsub (csum f m) (csum g m) = csum (fun t => gsub (f t) (g t)) m
 | 0 => rfl
 | m + 1 => by
   rw [csum_next, csum_next, csum_next, ← csum_less f g m]
   apply gi_eq <;> simp only [gadd, gsub] <;> omega
theorem unt_sum (m n : Nat) (hm : (m : Int) = 4 ∨ (m : Int) = 8 ∨ (m : Int) = 16 ∨ (m : Int) = 32) (hn : n = 2 * m) (r : Nat → Int) (M : Int) (hM : 0 ≤ M) (hr : ∀ j, -M ≤ r j ∧ r j ≤ M) (k k' : Nat) (hk : (k + k') % m = 0) :
 Len (m * (2 * M * 1649267441664)) (gsubS (gadd (gup 1099511627776 (gadd (csum (fun j => gmul ⟨r (2 * j), r (2 * j + 1)⟩ (wv m false (j * k))) m) (csum (fun j => gmul ⟨r (2 * j), r (2 * j + 1)⟩ (wv m false (j * k'))) m).conj))
  (gmul (Gi.turn (-1) (gsub (csum (fun j => gmul ⟨r (2 * j), r (2 * j + 1)⟩ (wv m false (j * k))) m) (csum (fun j => gmul ⟨r (2 * j), r (2 * j + 1)⟩ (wv m false (j * k'))) m).conj)) (wv n false k)))
  (gup 2199023255552 (csum (fun j => gmul ⟨r j, 0⟩ (wv n false (j * k))) n))) := by
 have hlm : IsLen m := by unfold IsLen; omega
 have hln : IsLen n := by unfold IsLen; omega
 rw [csum_conj, csum_two, csum_less, csum_turn1, csum_mul, csum_up, csum_two, hn, csum_parts, csum_two, csum_up, csum_sub]
 refine csum_len _ _ (Int.mul_nonneg (by omega) (by decide)) m fun j hj => ?_
 have ec : (gmul ⟨r (2 * j), r (2 * j + 1)⟩ (wv m false (j * k'))).conj = gmul ⟨r (2 * j), -(r (2 * j + 1))⟩ (wv m false (j * k)) := by
  have h := conj_wv m hlm j k k' hk
  rw [← h]
  apply gi_eq <;> simp only [gmul, Gi.conj] <;> grind
 have ee : wv n false (2 * j * k) = wv m false (j * k) := by
  rw [Nat.mul_assoc]
  exact wv_twice m n hm (by omega) (j * k)
 have ep := prod_near n hln false (2 * j * k) k
 rw [ee, show 2 * j * k + k = (2 * j + 1) * k by rw [Nat.add_mul, Nat.one_mul]] at ep
 have hx : Len (2 * M) (⟨2 * r (2 * j + 1), 0⟩ : Gi) := by
  have h := hr (2 * j + 1)
  unfold Len
  simp only
  have : 0 ≤ (2 * M - 2 * r (2 * j + 1)) * (2 * M + 2 * r (2 * j + 1)) := Int.mul_nonneg (by omega) (by omega)
  have e : (2 * M - 2 * r (2 * j + 1)) * (2 * M + 2 * r (2 * j + 1)) = 2 * M * (2 * M) - 2 * r (2 * j + 1) * (2 * r (2 * j + 1)) := by grind
  omega
 have h := Len.mul (by omega) hx ep
 subst hn
 rw [ec, ee]
 refine Eq.mp (congrArg _ ?_) h
 simp only [turn_back]
 generalize wv m false (j * k) = x
 generalize wv (2 * m) false k = y
 generalize wv (2 * m) false ((2 * j + 1) * k) = z
 generalize r (2 * j) = p
 generalize r (2 * j + 1) = q
 apply gi_eq <;> simp only [gmul, gadd, gsub, gsubS, gup] <;> grind
end
section
open Go.ChangeShapes Go.WideShapes Go.ChangeAt Go.RowKit
set_option linter.unusedVariables false
set_option maxRecDepth 100000
def AllO (xs : List Gi) : Prop := ∀ a ∈ xs, a = ⟨0, 0⟩
theorem AllO.getD {xs : List Gi} (h : AllO xs) (i : Nat) : xs.getD i ⟨0, 0⟩ = ⟨0, 0⟩ := by
 rw [List.getD_eq_getElem?_getD]
 cases e : xs[i]? with
 | none => rfl
 | some a => exact h a (List.mem_of_getElem? e)
theorem allO_of {xs : List Gi} (h : maxG xs = 0) : AllO xs := by
 intro a ha
 have hg := maxG_ge xs a ha
 rw [h] at hg
 obtain ⟨x, y⟩ := a
 unfold absI at hg
 simp only at hg
 obtain ⟨h1, h2⟩ := hg
 obtain rfl : x = 0 := by split at h1 <;> omega
 obtain rfl : y = 0 := by split at h2 <;> omega
 rfl
theorem AllO.max {xs : List Gi} (h : AllO xs) : maxG xs = 0 := by
 have h1 := maxG_nonneg xs
 have h2 := maxG_le xs 0 (Int.le_refl 0) (fun a ha => by rw [h a ha]; exact ⟨by decide, by decide⟩)
 omega
theorem two_o {xs : List Gi} (h : AllO xs) (ws : List Gi) (k bits s : Nat) (mo : Int) (iv : Bool) (hm : mo = 0 ∨ mo = 1 ∨ mo = 2) : AllO (twoL xs ws k bits s mo iv) := by
 have hg : ∀ w, gmul ⟨0, 0⟩ w = ⟨0, 0⟩ := fun w => by simp [gmul]
 intro a ha
 obtain ⟨i, _, rfl⟩ := List.mem_map.1 ha
 unfold twoAt
 rw [h.getD, h.getD, h.getD]
 split
 ·unfold pairUp padd
  rw [hg]
  simp only [Int.zero_mul, Int.add_zero, rnd_of_zero _ _ hm]
 ·unfold pairDown psub
  rw [hg]
  simp only [Int.zero_mul, Int.sub_zero, rnd_of_zero _ _ hm]
theorem four_o {xs : List Gi} (h : AllO xs) (ws : List Gi) (k bits s : Nat) (mo : Int) (iv : Bool) (hm : mo = 0 ∨ mo = 1 ∨ mo = 2) : AllO (fourL xs ws k bits s mo iv) := by
 have h0 : gscale bits ⟨0, 0⟩ = ⟨0, 0⟩ := by simp [gscale]
 have h1 : ∀ w, gmul ⟨0, 0⟩ w = ⟨0, 0⟩ := fun w => by simp [gmul]
 have h2 : ∀ n, Gi.turn n ⟨0, 0⟩ = ⟨0, 0⟩ := fun n => by simp [Gi.turn]
 intro a ha
 obtain ⟨i, _, rfl⟩ := List.mem_map.1 ha
 unfold fourAt
 simp only [h.getD]
 unfold quadOut quadSum
 rw [h0, h1, h1, h1, h2, h2, h2]
 unfold grnd gadd
 simp only [Int.add_zero]
 rw [rnd_of_zero _ _ hm]
section
variable {fo b p lo ke sc mo : Int} {L n B : Nat} {xs : List Gi}
theorem step_o {ys : List Gi} (hm : mo = 0 ∨ mo = 1 ∨ mo = 2) (h : AllO ys) (iv : Bool) (ws : List Gi) (q : Gi) : AllO (stepV sc p B mo iv ws ys q) := by
 unfold stepV passV
 split
 ·exact four_o h _ _ _ _ _ _ hm
 ·exact two_o h _ _ _ _ _ _ hm
theorem next_o (H : PlF fo b p lo ke sc mo L n B) (iv : Bool) (ws : List Gi) (b0 : BV) (q : Gi) (h : AllO b0.X) : AllO (nextB sc mo p iv B ws b0 q).X ∧ (sc = 1 → (nextB sc mo p iv B ws b0 q).ex = b0.ex) := by
 obtain ⟨hmo, _⟩ := H.kinds
 have hp : 4 ≤ p ∧ 0 ≤ p / 8 ∧ 0 ≤ p / 4 := by rcases H.sizes with h | h <;> omega
 constructor
 ·unfold nextB
  split
  ·intro a ha
   obtain ⟨y, hy, rfl⟩ := List.mem_map.1 ha
   rw [step_o hmo h iv ws q y hy]
   unfold clampG
   rw [clampI_id p 0 (by omega) (by omega)]
  ·exact step_o hmo h iv ws q
 ·intro hs
  simp only [nextB]
  subst hs
  unfold shOf preOf
  rw [h.max, if_neg (by decide), if_pos rfl]
  split
  ·rw [if_pos (by omega)]; omega
  ·rw [if_pos (by omega)]; omega
theorem ready_o (H : PlF fo b p lo ke sc mo L n B) (hl : xs.length = n) (h : AllO xs) : AllO (readyB ke sc mo p L xs).X ∧ (sc = 1 → (readyB ke sc mo p L xs).ex = 0) := by
 obtain ⟨hmo, _⟩ := H.kinds
 constructor
 ·intro y hy
  obtain ⟨a, ha, rfl⟩ := ready_mem H hl hy
  rw [h a ha]
  unfold shG
  split
  ·rw [rnd_of_zero _ _ hmo]
  ·simp
 ·intro hs
  simp only [readyB, atFirst]
  rw [if_neg (by omega), if_pos hs, h.max]
  have : room p 0 = 0 := by
   rcases Nat.eq_zero_or_pos (room p 0) with h | h
   ·exact h
   ·have := (room_fits p 0 h).1
    omega
  rw [this]
  rfl
theorem behind_o (H : PlF fo b p lo ke sc mo L n B) (iv : Bool) (ws : List Gi) : ∀ (l : List Gi) (b0 : BV), AllO b0.X → AllO (l.foldl (nextB sc mo p iv B ws) b0).X ∧ (sc = 1 → (l.foldl (nextB sc mo p iv B ws) b0).ex = b0.ex)
 | [], b0, h => ⟨h, fun _ => rfl⟩
 | q :: l, b0, h => by
   have h1 := next_o H iv ws b0 q h
   have h2 := behind_o H iv ws l _ h1.1
   rw [List.foldl_cons]
   exact ⟨h2.1, fun hs => (h2.2 hs).trans (h1.2 hs)⟩
theorem split_man (H : PlF fo b p lo ke sc mo L n B) (iv : Bool) {ys : List Gi} (hl : ys.length = n) (hh : ∀ y ∈ ys, Bd (p / 2) y) : ManB p (sL B mo iv (tw n B) L ys) := by
 obtain ⟨hmo, _⟩ := H.kinds
 obtain ⟨⟨l2, l6⟩, h4, hlen⟩ := H.lens
 have hb : 12 ≤ B ∧ B ≤ 29 ∧ 3 * 2 ^ B ≤ p - 1 := by rcases H.sizes with ⟨_, _, rfl, rfl⟩ | ⟨_, _, rfl, rfl⟩ <;> decide
 obtain ⟨R, hR0, hRB, hR⟩ : ∃ R : Int, 0 ≤ R ∧ R + 30 ≤ 3 * 2 ^ B ∧ ∀ y ∈ ys, Len R y := by
  rcases H.sizes with ⟨_, _, rfl, rfl⟩ | ⟨_, _, rfl, rfl⟩
  ·exact ⟨23171, by decide, by decide, fun y hy => len_start _ 16384 23171 (by decide) (by omega) (hh y hy)⟩
  ·exact ⟨1518500250, by decide, by decide, fun y hy => len_start _ 1073741824 1518500250 (by decide) (by omega) (hh y hy)⟩
 refine bd_man (fun a ha => ?_)
 obtain ⟨i, hi, rfl⟩ := List.mem_map.1 ha
 have hi := List.mem_range.1 hi
 have := spl_len B mo iv (rootOf (tw n B) iv) (tw n B).length hmo (fun k => roots_len n hlen B (by omega) (by omega) iv k) L R (fun j => ys.getD j ⟨0, 0⟩) hR0 (by omega)
  (fun j hj => by
   have hjl : j < ys.length := by rw [hl, H.n]; exact hj
   rw [List.getD_eq_getElem?_getD, List.getElem?_eq_getElem hjl]
   exact hR _ (List.getElem_mem hjl)) i hi
 exact (this.bd (by omega)).mono (by omega)
theorem run_man (H : PlF fo b p lo ke sc mo L n B) (iv : Bool) (hl : xs.length = n) (hm : ManB p xs) : ManB p (runB15 ke lo sc mo p iv L B (tw n B) xs).X := by
 unfold runB15
 by_cases hke : ke = 2
 ·rw [if_pos hke]
  have hs := H.kinds.2.2.1 hke
  exact split_man H iv (ready_len H hl) fun y hy => by
   obtain ⟨a, ha, rfl⟩ := ready_mem H hl hy
   exact bd_iff.2 ((ready_part H hm a ha).2 hs)
 ·rw [if_neg hke]
  exact (behind_man H iv hl hm _ (Nat.le_refl _)).2
theorem run_o (H : PlF fo b p lo ke sc mo L n B) (iv : Bool) (hl : xs.length = n) (h : maxG xs = 0) : maxG (runB15 ke lo sc mo p iv L B (tw n B) xs).X = 0 ∧ (sc = 1 → (runB15 ke lo sc mo p iv L B (tw n B) xs).ex = 0) := by
 obtain ⟨hmo, hsc, hks, _⟩ := H.kinds
 obtain ⟨⟨l2, l6⟩, h4, hlen⟩ := H.lens
 have ho := ready_o H hl (allO_of h)
 unfold runB15
 by_cases hke : ke = 2
 ·rw [if_pos hke]
  refine ⟨?_, fun hs => by have := hks hke; omega⟩
  have hb : 12 ≤ B ∧ B ≤ 29 := by rcases H.sizes with h | h <;> omega
  rw [sL_same B mo iv (tw n B) L _ ⟨0, 0⟩ hmo (roots_first n hlen B (by omega) iv) (fun j _ => ho.1.getD j)]
  refine AllO.max (fun a ha => ?_)
  obtain ⟨i, _, rfl⟩ := List.mem_map.1 ha
  split <;> rfl
 ·rw [if_neg hke]
  have h2 := behind_o H iv (tw n B) ((passL ke lo).take (passL ke lo).length) _ ho.1
  exact ⟨h2.1.max, fun hs => (h2.2 hs).trans (ho.2 hs)⟩
end
end
end Go.Proofs.YtdignnmpfkgkoaaGreat
