import Derived.Test.YtcgeabpibkejpaaGreatUS41
namespace Go.Proofs.YtcgeabpibkejpaaGreat
section
set_option linter.unusedVariables false
set_option linter.unusedSimpArgs false
set_option maxRecDepth 100000
section
variable {fo b p lo ke sc mo : Int} {L n B : Nat} {xs : List Gi}
theorem pre_room (H : PlF fo b p lo ke sc mo L n B) (iv : Bool) (hl : xs.length = n) (hm : ManB p xs) (pre : List Gi) (q : Gi) (suf : List Gi) (pow : Nat) (e : passL ke lo = pre ++ q :: suf) :
 Room sc p (dlB B) (lnP p) (32 * lnP p) (pre.foldl (nextB sc mo p iv B (tw n B)) (readyB ke sc mo p L xs)) q pow := by
 obtain ⟨hmo, hsc, _, k0, k1⟩ := H.kinds
 obtain ⟨⟨l2, l6⟩, h4, hlen⟩ := H.lens
 have hlo := H.lo
 have hfit := passL_fits ke lo k0 k1 (by omega) (by omega) q (by rw [e]; simp)
 rw [show lo.toNat = L by omega, ← H.n] at hfit
 obtain ⟨hre, h, u, e1, h1, hu, e2⟩ := hfit
 have hh : h ≤ 32 := by
  have c : (h : Int) ≤ h * u := by
   have := Int.mul_le_mul_of_nonneg_left (show (1 : Int) ≤ u by omega) (show (0 : Int) ≤ h by omega)
   omega
  rcases hre with r | r <;> rw [r, Int.mul_assoc] at e2 <;> omega
 have hpre : pre.foldl (nextB sc mo p iv B (tw n B)) (readyB ke sc mo p L xs) = behindB ke lo sc mo p iv L B (tw n B) xs pre.length := by
  unfold behindB
  rw [e, List.take_left]
 have hj : pre.length ≤ (passL ke lo).length := by rw [e]; simp
 rw [hpre]
 obtain ⟨hYl, hYm⟩ := behind_man H iv hl hm pre.length hj
 have i0 : 0 ≤ q.im := by omega
 have i1 : q.im ≤ 32 := by omega
 have hX0 := lnP_nonneg p
 rcases hsc with rfl | rfl | rfl
 ·have hH := half_len H rfl iv hl hm pre.length hj
  generalize (behindB ke lo 0 mo p iv L B (tw n B) xs pre.length) = c at *
  rcases H.sizes with ⟨_, _, rfl, rfl⟩ | ⟨_, _, rfl, rfl⟩ <;> rcases hre with r | r <;> refine room_of (by decide) hH hX0 i0 i1 ?_ <;> rw [show ∀ pp, shOf 0 q.re pp c.X = if q.re = 4 then 2 else 1 from fun _ => rfl, r] <;> decide
 ·generalize (behindB ke lo 1 mo p iv L B (tw n B) xs pre.length) = c at *
  have hg : ∀ a ∈ c.X, (-(maxG c.X) ≤ a.re ∧ a.re ≤ maxG c.X) ∧ (-(maxG c.X) ≤ a.im ∧ a.im ≤ maxG c.X) := fun a ha => by
   have := maxG_ge c.X a ha
   exact ⟨absI_le.1 this.1, absI_le.1 this.2⟩
  have es : shOf 1 q.re p c.X = preOf q.re p (maxG c.X) := rfl
  have hp : maxG c.X ≤ p := maxG_le c.X p (by rcases H.sizes with h | h <;> omega) (man_bd hYm)
  have key : ∀ (M R : Int), 0 ≤ M → 0 ≤ R → 2 * (M * M) ≤ R * R → maxG c.X ≤ M → (q.re - 1) * (64 * (R * dlB B) + 1000000000 + 3072 * lnP p) ≤ (addB q.re 1 - 91) * 2 ^ (preOf q.re p (maxG c.X)).toNat * 1099511627776 → Room 1 p (dlB B) (lnP p) (32 * lnP p) c q pow := fun M R hM hR hMR hc h => by
   refine room_of hR (len_of_bd hM hMR fun a ha => ?_) hX0 i0 i1 (by rw [es]; exact h)
   have := hg a ha
   omega
  generalize maxG c.X = m at *
  rcases H.sizes with ⟨_, _, rfl, rfl⟩ | ⟨_, _, rfl, rfl⟩ <;> rcases hre with r | r <;> rw [r] at key <;> unfold preOf at key
  ·by_cases c1 : m ≤ 32768 / 4
   ·exact key 8192 11586 (by decide) (by decide) (by decide) (by omega) (by rw [if_neg (by decide), if_pos c1]; decide)
   ·by_cases c2 : m ≤ 32768 / 2
    ·exact key 16384 23171 (by decide) (by decide) (by decide) (by omega) (by rw [if_neg (by decide), if_neg c1, if_pos c2]; decide)
    ·exact key 32768 46341 (by decide) (by decide) (by decide) (by omega) (by rw [if_neg (by decide), if_neg c1, if_neg c2]; decide)
  ·by_cases c0 : m ≤ 32768 / 8
   ·exact key 4096 5793 (by decide) (by decide) (by decide) (by omega) (by rw [if_pos rfl, if_pos c0]; decide)
   ·by_cases c1 : m ≤ 32768 / 4
    ·exact key 8192 11586 (by decide) (by decide) (by decide) (by omega) (by rw [if_pos rfl, if_neg c0, if_pos c1]; decide)
    ·by_cases c2 : m ≤ 32768 / 2
     ·exact key 16384 23171 (by decide) (by decide) (by decide) (by omega) (by rw [if_pos rfl, if_neg c0, if_neg c1, if_pos c2]; decide)
     ·exact key 32768 46341 (by decide) (by decide) (by decide) (by omega) (by rw [if_pos rfl, if_neg c0, if_neg c1, if_neg c2]; decide)
  ·by_cases c1 : m ≤ 2147483648 / 4
   ·exact key 536870912 759250125 (by decide) (by decide) (by decide) (by omega) (by rw [if_neg (by decide), if_pos c1]; decide)
   ·by_cases c2 : m ≤ 2147483648 / 2
    ·exact key 1073741824 1518500250 (by decide) (by decide) (by decide) (by omega) (by rw [if_neg (by decide), if_neg c1, if_pos c2]; decide)
    ·exact key 2147483648 3037000500 (by decide) (by decide) (by decide) (by omega) (by rw [if_neg (by decide), if_neg c1, if_neg c2]; decide)
  ·by_cases c0 : m ≤ 2147483648 / 8
   ·exact key 268435456 379625063 (by decide) (by decide) (by decide) (by omega) (by rw [if_pos rfl, if_pos c0]; decide)
   ·by_cases c1 : m ≤ 2147483648 / 4
    ·exact key 536870912 759250125 (by decide) (by decide) (by decide) (by omega) (by rw [if_pos rfl, if_neg c0, if_pos c1]; decide)
    ·by_cases c2 : m ≤ 2147483648 / 2
     ·exact key 1073741824 1518500250 (by decide) (by decide) (by decide) (by omega) (by rw [if_pos rfl, if_neg c0, if_neg c1, if_pos c2]; decide)
     ·exact key 2147483648 3037000500 (by decide) (by decide) (by decide) (by omega) (by rw [if_pos rfl, if_neg c0, if_neg c1, if_neg c2]; decide)
 ·have hH := man_len H hYm
  generalize (behindB ke lo 2 mo p iv L B (tw n B) xs pre.length) = c at *
  rcases H.sizes with ⟨_, _, rfl, rfl⟩ | ⟨_, _, rfl, rfl⟩ <;> rcases hre with r | r <;> refine room_of (by decide) hH hX0 i0 i1 ?_ <;> rw [show ∀ pp, shOf 2 q.re pp c.X = 0 from fun _ => rfl, r] <;> decide
theorem first_near (H : PlF fo b p lo ke sc mo L n B) (hke : ke ≠ 2) (iv : Bool) (hl : xs.length = n) :
 NearL (startB sc) (if sc = 0 then 1 else 0) n L (upX sc p mo xs) iv 0 (readyB ke sc mo p L xs).X := by
 obtain ⟨hmo, hsc, _, k0, k1⟩ := H.kinds
 obtain ⟨⟨l2, l6⟩, h4, hlen⟩ := H.lens
 intro i hi
 have hn2 := H.n
 have hf := fl_lt L i
 rw [idG_start n L hlen hn2]
 have e : (readyB ke sc mo p L xs).X.getD i ⟨0, 0⟩ = shG (atFirst sc p xs) mo (xs.getD (fl L i) ⟨0, 0⟩) := by
  unfold readyB flipL
  rw [if_neg hke, List.map_map, ← hn2, getD_map_range hi]
  rfl
 rw [e]
 rcases hsc with rfl | rfl | rfl
 ·rw [if_pos rfl]
  exact near_first mo hmo _
 ·rw [if_neg (by decide)]
  have e2 : (upX 1 p mo xs).getD (fl L i) ⟨0, 0⟩ = shG (atFirst 1 p xs) mo (xs.getD (fl L i) ⟨0, 0⟩) := by
   unfold upX
   rw [if_pos rfl, List.getD_eq_getElem?_getD, List.getD_eq_getElem?_getD, List.getElem?_map, List.getElem?_eq_getElem (by omega)]
   rfl
  rw [e2]
  exact near_same _
 ·rw [if_neg (by decide)]
  have e2 : shG (atFirst 2 p xs) mo (xs.getD (fl L i) ⟨0, 0⟩) = xs.getD (fl L i) ⟨0, 0⟩ := by
   simp only [atFirst, shG, show ¬ ((2 : Int) = 0) by decide, show ¬ ((2 : Int) = 1) by decide, if_false, Int.le_refl, if_true, Int.toNat_zero, rnd_none _ mo hmo]
  rw [e2]
  exact near_same _
theorem passes_near (H : PlF fo b p lo ke sc mo L n B) (hke : ke ≠ 2) (iv : Bool) (hl : xs.length = n) (hm : ManB p xs) (hs : (runB15 ke lo sc mo p iv L B (tw n B) xs).sat = false) :
 NearL (ofB sc ke lo (runB15 ke lo sc mo p iv L B (tw n B) xs).sh) ((runB15 ke lo sc mo p iv L B (tw n B) xs).ex + (if sc = 1 then (room p (maxG xs) : Int) else 0)).toNat n L (upX sc p mo xs) iv L (runB15 ke lo sc mo p iv L B (tw n B) xs).X := by
 obtain ⟨hmo, hsc, _, k0, k1⟩ := H.kinds
 obtain ⟨⟨l2, l6⟩, h4, hlen⟩ := H.lens
 have hlo := H.lo
 have hn2 := H.n
 have h6 := passL_len6 ke lo k0 k1 (by omega) (by omega)
 have er : runB15 ke lo sc mo p iv L B (tw n B) xs = (passL ke lo).foldl (nextB sc mo p iv B (tw n B)) (readyB ke sc mo p L xs) := by
  unfold runB15 behindB
  rw [if_neg hke, List.take_length]
 rw [er] at hs ⊢
 have hch := passL_chain ke lo (by omega) (by omega) (by omega)
 rw [show lo.toNat = L by omega, ← hn2] at hch
 have hB : B ≤ 40 := by rcases H.sizes with h | h <;> omega
 have h46 : (4 : Int) ^ (passL ke lo).length ≤ 4096 := by
  have : (4 : Int) ^ (passL ke lo).length ≤ 4 ^ 6 := by exact_mod_cast Nat.pow_le_pow_right (n := 4) (by omega) h6
  exact this
 have hst : 0 ≤ startB sc ∧ startB sc ≤ 91 := by unfold startB; split <;> decide
 have F := (fold_near hlen hn2 hmo (dlB_nonneg B) (lnP_nonneg p) hB (fun j => man_len H (upX_man H hm) j) (fun k hk => tw_near H iv k hk) (passL ke lo) 0 (readyB ke sc mo p L xs) (startB sc) 91 (if sc = 0 then 1 else 0)
  hch (by omega) hst.1 hst.2 (by omega) (ready_len H hl) (first_near H hke iv hl) hs (fun pre q suf e => pre_room H iv hl hm pre q suf _ e)).out
 obtain ⟨ss, g1, g2, g3⟩ := F
 have eo : ofB sc ke lo ((passL ke lo).foldl (nextB sc mo p iv B (tw n B)) (readyB ke sc mo p L xs)).sh = runB sc (startB sc) (passL ke lo) ss := by
  rw [g1]
  unfold ofB
  rw [if_neg hke, Int.add_zero]
  rfl
 have ex : (readyB ke sc mo p L xs).ex = atFirst sc p xs := rfl
 rw [eo]
 rw [ex] at g2 g3
 generalize ((passL ke lo).foldl (nextB sc mo p iv B (tw n B)) (readyB ke sc mo p L xs)).ex = E at *
 have ep : (if sc = 0 then 1 else 0) + (E - atFirst sc p xs).toNat = (E + (if sc = 1 then (room p (maxG xs) : Int) else 0)).toNat := by
  unfold atFirst at g2 ⊢
  rcases hsc with rfl | rfl | rfl
  ·rw [if_pos rfl] at g2
   rw [if_pos rfl, if_pos rfl, if_neg (by decide)]
   omega
  ·rw [if_neg (by decide), if_pos rfl] at g2
   rw [if_neg (by decide), if_neg (by decide), if_pos rfl, if_pos rfl]
   omega
  ·rw [if_neg (by decide), if_neg (by decide)] at g2
   rw [if_neg (by decide), if_neg (by decide), if_neg (by decide), if_neg (by decide)]
   omega
 rw [ep] at g3
 exact g3
end
end
section
set_option linter.unusedVariables false
set_option linter.unusedSimpArgs false
set_option maxRecDepth 100000
theorem near_far {e : Int} {pow : Nat} {c V : Gi} (he : 0 ≤ e) (h : Near e pow c V) :
 (-(e * 2 ^ (pow + 2)) ≤ c.re * 2 ^ (pow + 8) - V.re / 4294967296 ∧ c.re * 2 ^ (pow + 8) - V.re / 4294967296 ≤ e * 2 ^ (pow + 2)) ∧
 (-(e * 2 ^ (pow + 2)) ≤ c.im * 2 ^ (pow + 8) - V.im / 4294967296 ∧ c.im * 2 ^ (pow + 8) - V.im / 4294967296 ≤ e * 2 ^ (pow + 2)) := by
 have hp : (0 : Int) < 2 ^ (pow + 40) := Int.pow_pos (by decide)
 have hb := bd_iff.1 (Len.bd (Int.mul_nonneg he (Int.le_of_lt hp)) h)
 simp only [gsubS, gup] at hb
 have e1 : (2 : Int) ^ (pow + 40) = 2 ^ (pow + 2) * 274877906944 := by rw [show pow + 40 = (pow + 2) + 38 by omega, Int.pow_add]; rfl
 have e2 : (2 : Int) ^ (pow + 8) = 2 ^ (pow + 2) * 64 := by rw [show pow + 8 = (pow + 2) + 6 by omega, Int.pow_add]; rfl
 rw [e1] at hb
 rw [e2]
 generalize (2 : Int) ^ (pow + 2) = P at *
 rw [show e * (P * 274877906944) = 274877906944 * (e * P) by grind, show c.re * (64 * (P * 274877906944)) = 17592186044416 * (c.re * P) by grind, show c.im * (64 * (P * 274877906944)) = 17592186044416 * (c.im * P) by grind] at hb
 rw [show c.re * (P * 64) = 64 * (c.re * P) by grind, show c.im * (P * 64) = 64 * (c.im * P) by grind]
 generalize e * P = Q at *
 generalize c.re * P = A at *
 generalize c.im * P = C at *
 omega
theorem csum_sumG (n : Nat) (xs : List Gi) (iv : Bool) (k m : Nat) : csum (fun t => gmul (xs.getD (0 + 1 * t) ⟨0, 0⟩) (wv n iv (0 + 1 * k * t))) m = sumG n xs iv k m := by
 unfold csum sumG termG
 simp only [Nat.zero_add, Nat.one_mul, Nat.mul_comm k]
theorem idG_end (n L : Nat) (hnL : n = 2 ^ L) (xs : List Gi) (iv : Bool) (i : Nat) (hi : i < n) : idG n L xs iv L i = sumG n xs iv i n := by
 unfold idG fsum
 rw [Nat.sub_self, Nat.pow_zero, ← hnL, Nat.mod_eq_of_lt hi, show fl 0 (i / n) = 0 from rfl]
 exact csum_sumG n xs iv i n
theorem spG_end (n L : Nat) (hnL : n = 2 ^ L) (xs : List Gi) (iv : Bool) (i : Nat) : spG n xs iv 0 1 L i = sumG n xs iv i n := by
 unfold spG fsum
 rw [← hnL]
 exact csum_sumG n xs iv i n
section
variable {fo b p lo ke sc mo : Int} {L n B : Nat} {xs : List Gi}
theorem split_run (H : PlF fo b p lo ke sc mo L n B) (hke : ke = 2) (iv : Bool) (hl : xs.length = n) (hm : ManB p xs) (i : Nat) (hi : i < n) :
 Near (spE L) (1 + L) ((sL B mo iv (tw n B) L (readyB ke sc mo p L xs).X).getD i ⟨0, 0⟩) (sumG n xs iv i n) := by
 obtain ⟨hmo, hsc, hks, k0, k1⟩ := H.kinds
 obtain ⟨⟨l2, l6⟩, h4, hlen⟩ := H.lens
 have hn2 := H.n
 have hs := hks hke
 subst hs
 have hH := ready_half H rfl hl hm
 rw [sL_at _ _ _ _ _ _ _ (by omega), tw_len, ← spG_end n L hn2]
 have hf : ∀ j, j < 2 ^ L → Near 91 1 ((readyB ke 0 mo p L xs).X.getD j ⟨0, 0⟩) (gup 1099511627776 (xs.getD (0 + 1 * j) ⟨0, 0⟩)) := fun j hj => by
  have e : (readyB ke 0 mo p L xs).X.getD j ⟨0, 0⟩ = shG 1 mo (xs.getD j ⟨0, 0⟩) := by
   unfold readyB
   rw [if_pos hke, List.getD_eq_getElem?_getD, List.getD_eq_getElem?_getD, List.getElem?_map, List.getElem?_eq_getElem (by omega)]
   rfl
  rw [e, Nat.zero_add, Nat.one_mul]
  exact near_first mo hmo _
 have hx : ∀ j, Len (lnP p) (xs.getD j ⟨0, 0⟩) := fun j => man_len H hm j
 have hW : ∀ k, k < n → Len (dlB B) (gsubS (gup (2 ^ (40 - B)) (rootOf (tw n B) iv k)) (wv n iv k)) := fun k hk => tw_near H iv k hk
 have hWl : ∀ k, Len (2 ^ B + 2) (rootOf (tw n B) iv k) := fun k => roots_len n hlen B (by rcases H.sizes with h | h <;> omega) (by rcases H.sizes with h | h <;> omega) iv k
 have h6 : ∀ l : Nat, l ≤ 5 → l = 0 ∨ l = 1 ∨ l = 2 ∨ l = 3 ∨ l = 4 ∨ l = 5 := fun l h => by omega
 rcases H.sizes with ⟨_, _, rfl, rfl⟩ | ⟨_, _, rfl, rfl⟩
 ·have hR : ∀ j, j < 2 ^ L → Len 23171 ((readyB ke 0 mo 32768 L xs).X.getD j ⟨0, 0⟩) := fun j _ => Int.le_trans (hH.getD (by decide) j) (by decide)
  exact split_near n hlen xs iv mo hmo 13 1 (by decide) (rootOf (tw n 13) iv) 23171 23206 (dlB 13) (lnP 32768) (by decide) (by decide) (by decide) hWl (by decide) (by decide) hx hW
   (fun l h => by rcases h6 l h with rfl | rfl | rfl | rfl | rfl | rfl <;> decide +kernel) L 0 1 _ (by omega) (by omega) hf hR i (by omega)
 ·have hR : ∀ j, j < 2 ^ L → Len 1518500250 ((readyB ke 0 mo 2147483648 L xs).X.getD j ⟨0, 0⟩) := fun j _ => Int.le_trans (hH.getD (by decide) j) (by decide)
  exact split_near n hlen xs iv mo hmo 29 1 (by decide) (rootOf (tw n 29) iv) 1518500250 1518500285 (dlB 29) (lnP 2147483648) (by decide) (by decide) (by decide) hWl (by decide) (by decide) hx hW
   (fun l h => by rcases h6 l h with rfl | rfl | rfl | rfl | rfl | rfl <;> decide +kernel) L 0 1 _ (by omega) (by omega) hf hR i (by omega)
theorem ofB_nonneg (H : PlF fo b p lo ke sc mo L n B) (ls : List Int) (hf : fitsB sc (passL ke lo) ls = true) : 0 ≤ ofB sc ke lo ls := by
 have hlo := H.lo
 have key : ∀ (l : List Gi) (ls : List Int) (e : Int), fitsB sc l ls = true → 0 ≤ e → 0 ≤ runB sc e l ls := by
  intro l
  induction l with
  | nil => intro ls e _ he; cases ls <;> exact he
  | cons q l ih =>
    intro ls e hf he
    cases ls with
    | nil => exact he
    | cons s ls =>
      simp only [fitsB, Bool.and_eq_true] at hf
      have h := fitB_iff.1 hf.1
      have h3 : s ≤ 3 := by have := h.1; unfold topB at this; revert this; repeat' split <;> omega
      exact ih ls _ hf.2 (stepB_pos e q.re sc s he (by omega)).1
 have h := key _ _ (startB sc) hf (by unfold startB; split <;> decide)
 unfold ofB
 split <;> omega
theorem run_key (H : PlF fo b p lo ke sc mo L n B) (iv : Bool) (hl : xs.length = n) (hm : ManB p xs) (hs : (runB15 ke lo sc mo p iv L B (tw n B) xs).sat = false)
 (P : Nat) (hP : (runB15 ke lo sc mo p iv L B (tw n B) xs).ex + (if sc = 1 then (room p (maxG xs) : Int) else 0) = P) (k : Nat) (hk : k < n) :
 Near (ofB sc ke lo (runB15 ke lo sc mo p iv L B (tw n B) xs).sh) P ((runB15 ke lo sc mo p iv L B (tw n B) xs).X.getD k ⟨0, 0⟩) (sumG n (upX sc p mo xs) iv k n) := by
 by_cases hke : ke = 2
 ·have hsc := H.kinds.2.2.1 hke
  have h := split_run H hke iv hl hm k hk
  have hlo := H.lo
  subst hke hsc
  have ex : (runB15 2 lo 0 mo p iv L B (tw n B) xs).ex = 1 + lo := rfl
  rw [ex, if_neg (by decide)] at hP
  have eP : P = 1 + L := by omega
  subst eP
  have eo : ofB 0 2 lo (runB15 2 lo 0 mo p iv L B (tw n B) xs).sh = spE L := by
   show runB 0 91 [] [] + (if (2 : Int) = 2 then 224 * lo else 0) = 91 + 224 * (L : Int)
   rw [if_pos rfl, hlo]
   rfl
  rw [eo]
  exact h
 ·have h := passes_near H hke iv hl hm hs k hk
  rw [hP, Int.toNat_natCast, idG_end n L H.n _ iv k hk] at h
  exact h
theorem run_far (H : PlF fo b p lo ke sc mo L n B) (iv : Bool) (hl : xs.length = n) (hm : ManB p xs) (hs : (runB15 ke lo sc mo p iv L B (tw n B) xs).sat = false)
 (he : 0 ≤ ofB sc ke lo (runB15 ke lo sc mo p iv L B (tw n B) xs).sh) (P : Nat) (hP : (runB15 ke lo sc mo p iv L B (tw n B) xs).ex + (if sc = 1 then (room p (maxG xs) : Int) else 0) = P) (k : Nat) (hk : k < n) :
 (-(ofB sc ke lo (runB15 ke lo sc mo p iv L B (tw n B) xs).sh * 2 ^ (P + 2)) ≤ ((runB15 ke lo sc mo p iv L B (tw n B) xs).X.getD k ⟨0, 0⟩).re * 2 ^ (P + 8) - (binG n (upX sc p mo xs) iv k).re ∧
  ((runB15 ke lo sc mo p iv L B (tw n B) xs).X.getD k ⟨0, 0⟩).re * 2 ^ (P + 8) - (binG n (upX sc p mo xs) iv k).re ≤ ofB sc ke lo (runB15 ke lo sc mo p iv L B (tw n B) xs).sh * 2 ^ (P + 2)) ∧
 (-(ofB sc ke lo (runB15 ke lo sc mo p iv L B (tw n B) xs).sh * 2 ^ (P + 2)) ≤ ((runB15 ke lo sc mo p iv L B (tw n B) xs).X.getD k ⟨0, 0⟩).im * 2 ^ (P + 8) - (binG n (upX sc p mo xs) iv k).im ∧
  ((runB15 ke lo sc mo p iv L B (tw n B) xs).X.getD k ⟨0, 0⟩).im * 2 ^ (P + 8) - (binG n (upX sc p mo xs) iv k).im ≤ ofB sc ke lo (runB15 ke lo sc mo p iv L B (tw n B) xs).sh * 2 ^ (P + 2)) := by
 exact near_far he (run_key H iv hl hm hs P hP k hk)
end
end
section
open Go.ChangeShapes Go.WideShapes Go.ChangeAt Go.RowKit
set_option linter.unusedVariables false
set_option maxRecDepth 100000
def AllO (xs : List Gi) : Prop := ∀ a ∈ xs, a = ⟨0, 0⟩
theorem AllO.getD {xs : List Gi} (h : AllO xs) (i : Nat) : xs.getD i ⟨0, 0⟩ = ⟨0, 0⟩ := by
 rw [List.getD_eq_getElem?_getD]
 cases e : xs[i]? with
 | none => rfl
 | some a => exact h a (List.mem_of_getElem? e)
theorem AllO.max {xs : List Gi} (h : AllO xs) : maxG xs = 0 := by
 have h1 := maxG_nonneg xs
 have h2 := maxG_le xs 0 (Int.le_refl 0) (fun a ha => by rw [h a ha]; exact ⟨by decide, by decide⟩)
 omega
section
variable {fo b p lo ke sc mo : Int} {L n B : Nat} {xs : List Gi}
theorem split_man (H : PlF fo b p lo ke sc mo L n B) (iv : Bool) {ys : List Gi} (hl : ys.length = n) (hh : ∀ y ∈ ys, Bd (p / 2) y) : ManB p (sL B mo iv (tw n B) L ys) := by
 obtain ⟨hmo, _⟩ := H.kinds
 obtain ⟨⟨l2, l6⟩, h4, hlen⟩ := H.lens
 have hb : 12 ≤ B ∧ B ≤ 29 ∧ 3 * 2 ^ B ≤ p - 1 := by rcases H.sizes with ⟨_, _, rfl, rfl⟩ | ⟨_, _, rfl, rfl⟩ <;> decide
 obtain ⟨R, hR0, hRB, hR⟩ : ∃ R : Int, 0 ≤ R ∧ R + 30 ≤ 3 * 2 ^ B ∧ ∀ y ∈ ys, Len R y := by
  rcases H.sizes with ⟨_, _, rfl, rfl⟩ | ⟨_, _, rfl, rfl⟩
  ·exact ⟨23171, by decide, by decide, fun y hy => len_start _ 16384 23171 (by decide) (by omega) (hh y hy)⟩
  ·exact ⟨1518500250, by decide, by decide, fun y hy => len_start _ 1073741824 1518500250 (by decide) (by omega) (hh y hy)⟩
 refine bd_man (fun a ha => ?_)
 obtain ⟨i, hi, rfl⟩ := List.mem_map.1 ha
 have hi := List.mem_range.1 hi
 have := spl_len B mo iv (rootOf (tw n B) iv) (tw n B).length hmo (fun k => roots_len n hlen B (by omega) (by omega) iv k) L R (fun j => ys.getD j ⟨0, 0⟩) hR0 (by omega)
  (fun j hj => by
   have hjl : j < ys.length := by rw [hl, H.n]; exact hj
   rw [List.getD_eq_getElem?_getD, List.getElem?_eq_getElem hjl]
   exact hR _ (List.getElem_mem hjl)) i hi
 exact (this.bd (by omega)).mono (by omega)
theorem run_man (H : PlF fo b p lo ke sc mo L n B) (iv : Bool) (hl : xs.length = n) (hm : ManB p xs) : ManB p (runB15 ke lo sc mo p iv L B (tw n B) xs).X := by
 unfold runB15
 by_cases hke : ke = 2
 ·rw [if_pos hke]
  have hs := H.kinds.2.2.1 hke
  exact split_man H iv (ready_len H hl) fun y hy => by
   obtain ⟨a, ha, rfl⟩ := ready_mem H hl hy
   exact bd_iff.2 ((ready_part H hm a ha).2 hs)
 ·rw [if_neg hke]
  exact (behind_man H iv hl hm _ (Nat.le_refl _)).2
end
end
section
set_option linter.unusedVariables false
set_option linter.unusedSimpArgs false
set_option maxRecDepth 100000
theorem fold_fits {sc mo p : Int} {B : Nat} {iv : Bool} {ws : List Gi} (hsc : sc = 0 ∨ sc = 1 ∨ sc = 2) (l : List Gi) : ∀ b0 : BV, (∀ q ∈ l, q.re = 2 ∨ q.re = 4) → ∃ ss, (l.foldl (nextB sc mo p iv B ws) b0).sh = b0.sh ++ ss ∧ fitsB sc l ss = true := by
 induction l with
 | nil => exact fun b0 _ => ⟨[], by simp, rfl⟩
 | cons q l ih =>
   intro b0 hq
   obtain ⟨ss, h1, h2⟩ := ih (nextB sc mo p iv B ws b0 q) (fun r hr => hq r (by simp [hr]))
   refine ⟨shOf sc q.re p b0.X :: ss, ?_, ?_⟩
   ·rw [List.foldl_cons, h1]
    simp [nextB]
   ·simp only [fitsB, Bool.and_eq_true]
    refine ⟨fitB_iff.2 ?_, h2⟩
    have h := hq q (by simp)
    unfold shOf preOf topB
    rcases hsc with rfl | rfl | rfl <;> rcases h with h | h <;> rw [h] <;> simp <;> (repeat' split) <;> omega
section
variable {fo b p lo ke sc mo : Int} {L n B : Nat} {xs : List Gi}
theorem run_fits (H : PlF fo b p lo ke sc mo L n B) (iv : Bool) (xs : List Gi) : fitsB sc (passL ke lo) (runB15 ke lo sc mo p iv L B (tw n B) xs).sh = true := by
 obtain ⟨hmo, hsc, _, k0, k1⟩ := H.kinds
 obtain ⟨⟨l2, l6⟩, h4, hlen⟩ := H.lens
 have hlo := H.lo
 unfold runB15
 by_cases hke : ke = 2
 ·rw [if_pos hke]
  unfold passL
  rw [if_pos hke]
  rfl
 ·rw [if_neg hke]
  obtain ⟨ss, h1, h2⟩ := fold_fits (mo := mo) (p := p) (B := B) (iv := iv) (ws := tw n B) hsc (passL ke lo) (readyB ke sc mo p L xs) (fun q hq => (passL_fits ke lo k0 k1 (by omega) (by omega) q hq).1)
  unfold behindB
  rw [List.take_length, h1]
  exact h2
theorem run_pow (H : PlF fo b p lo ke sc mo L n B) (iv : Bool) (xs : List Gi) :
 0 ≤ (runB15 ke lo sc mo p iv L B (tw n B) xs).ex + (if sc = 1 then (room p (maxG xs) : Int) else 0) ∧ (runB15 ke lo sc mo p iv L B (tw n B) xs).ex + (if sc = 1 then (room p (maxG xs) : Int) else 0) ≤ 20 := by
 obtain ⟨hmo, hsc, hks, k0, k1⟩ := H.kinds
 obtain ⟨⟨l2, l6⟩, h4, hlen⟩ := H.lens
 have hlo := H.lo
 have h6 := passL_len6 ke lo k0 k1 (by omega) (by omega)
 unfold runB15
 by_cases hke : ke = 2
 ·rw [if_pos hke, if_neg (by have := hks hke; omega)]
  simp only
  omega
 ·rw [if_neg hke]
  unfold behindB
  rw [List.take_length]
  have h := behind_ex (sc := sc) (mo := mo) (p := p) (B := B) iv (tw n B) (passL ke lo) (readyB ke sc mo p L xs)
  have ex : (readyB ke sc mo p L xs).ex = atFirst sc p xs := rfl
  rw [ex] at h
  unfold atFirst at h
  rcases hsc with rfl | rfl | rfl
  ·rw [if_pos rfl] at h
   rw [if_neg (by decide)]
   omega
  ·rw [if_neg (by decide), if_pos rfl] at h
   rw [if_pos rfl]
   omega
  ·rw [if_neg (by decide), if_neg (by decide)] at h
   rw [if_neg (by decide)]
   omega
theorem run_within (H : PlF fo b p lo ke sc mo L n B) (iv : Bool) (hl : xs.length = n) (hm : ManB p xs) (hs : (runB15 ke lo sc mo p iv L B (tw n B) xs).sat = false) (P : Nat) (hP : (runB15 ke lo sc mo p iv L B (tw n B) xs).ex + (if sc = 1 then (room p (maxG xs) : Int) else 0) = P) :
 farG (runB15 ke lo sc mo p iv L B (tw n B) xs).X (binsG n (upX sc p mo xs) iv) P n ≤ ofB sc ke lo (runB15 ke lo sc mo p iv L B (tw n B) xs).sh * 2 ^ (P + 2) := by
 have he := ofB_nonneg H _ (run_fits H iv xs)
 refine maxG_le _ _ (Int.mul_nonneg he (Int.le_of_lt (Int.pow_pos (by decide)))) fun a ha => ?_
 obtain ⟨k, hk, rfl⟩ := List.mem_map.1 ha
 have hk := List.mem_range.1 hk
 have h := run_far H iv hl hm hs he P hP k hk
 unfold binsG
 rw [getD_map_range hk]
 exact ⟨absI_le.2 h.1, absI_le.2 h.2⟩
theorem half_bound (H : PlF fo b p lo ke 0 mo L n B) (ls : List Int) (hf : fitsB 0 (passL ke lo) ls = true) (P : Nat) (m : Int) (h0 : 0 ≤ m) (h1 : m ≤ 2147483648) :
 ofB 0 ke lo ls * 2 ^ (P + 2) + (2 * (n : Int) * m / 4294967296 + 2) ≤ (6 * lo + 4) * 2 ^ (P + 8) + 66 := by
 obtain ⟨hmo, hsc, hks, k0, k1⟩ := H.kinds
 obtain ⟨⟨l2, l6⟩, h4, hlen⟩ := H.lens
 have hlo := H.lo
 have h := half_least ke lo ls k0 k1 (by omega) (by omega) hf
 have hp : (0 : Int) < 2 ^ (P + 2) := Int.pow_pos (by decide)
 have e2 : (2 : Int) ^ (P + 8) = 64 * 2 ^ (P + 2) := by rw [show P + 8 = (P + 2) + 6 by omega, Int.pow_add, Int.mul_comm]; rfl
 have a := Int.mul_le_mul_of_nonneg_right h (Int.le_of_lt hp)
 have e : (6 * lo + 4) * (64 * 2 ^ (P + 2)) = 64 * (6 * lo + 4) * 2 ^ (P + 2) := by grind
 have hn : 2 * (n : Int) * m ≤ 274877906944 := by
  have c := Int.mul_le_mul_of_nonneg_right (show 2 * (n : Int) ≤ 128 by omega) h0
  omega
 rw [e2, e]
 omega
end
end
section
open Go.ChangeShapes Go.WideShapes Go.ChangeAt Go.RowKit
set_option linter.unusedVariables false
set_option linter.unusedSimpArgs false
set_option maxRecDepth 100000
theorem run_may {fo lo ke sc mo : Int} {iv : Bool} {xs : List Gi} (h0 : whyB fo lo ke sc mo false xs = 0) :
 whyV fo lo ke sc mo (runF fo lo ke sc mo iv xs).ex xs (runF fo lo ke sc mo iv xs).X (runF fo lo ke sc mo iv xs).sh = 0 ∧ (runF fo lo ke sc mo iv xs).X.length = xs.length ∧ (0 ≤ (runF fo lo ke sc mo iv xs).ex + upU fo sc xs ∧ (runF fo lo ke sc mo iv xs).ex + upU fo sc xs ≤ 20) ∧ fitsB sc (passL ke lo) (runF fo lo ke sc mo iv xs).sh = true := by
 obtain ⟨h1, h2, h3⟩ := why_yes h0
 have H := plF_of h1
 have hm := manB_iff.1 h3
 have hp := run_pow H iv xs
 have hf : fitsB sc (passL ke lo) (runF fo lo ke sc mo iv xs).sh = true := run_fits H iv xs
 have hr := run_man H iv h2 hm
 have hlen : (runF fo lo ke sc mo iv xs).X.length = xs.length := by
  rw [h2]
  unfold runF runB15
  split
  ·exact sL_len _ _ _ _ _ _
  ·exact (behind_man H iv h2 hm _ (Nat.le_refl _)).1
 have hp2 : 0 ≤ (runF fo lo ke sc mo iv xs).ex + upU fo sc xs ∧ (runF fo lo ke sc mo iv xs).ex + upU fo sc xs ≤ 20 := hp
 refine ⟨?_, hlen, hp2, hf⟩
 unfold whyV
 rw [if_pos h0, if_pos hlen, if_pos ⟨manB_iff.2 hr, by omega, by omega⟩, if_pos hf]
theorem runV_near {fo lo ke sc mo : Int} {iv : Bool} {xs : List Gi} (h0 : whyB fo lo ke sc mo false xs = 0) (hs : (runF fo lo ke sc mo iv xs).sat = false) :
 farV fo sc mo (runF fo lo ke sc mo iv xs).ex iv xs (runF fo lo ke sc mo iv xs).X ≤ boundV fo lo ke sc mo (runF fo lo ke sc mo iv xs).ex xs (runF fo lo ke sc mo iv xs).sh := by
 obtain ⟨h1, h2, h3⟩ := why_yes h0
 have H := plF_of h1
 have hm := manB_iff.1 h3
 obtain ⟨hw, hlen, hpow, _⟩ := run_may (iv := iv) h0
 obtain ⟨⟨L, hL⟩, f1, f2, f3, f4, f5⟩ := near_facts (mo := mo) hw
 have hl := hL.len
 have h64 : xs.length ≤ 64 := by rw [← hlen]; unfold IsLen at hl; omega
 have hsl := (slackG_bd xs.length h64 _ f3).2.2
 have h := run_within H iv h2 hm hs (powV fo sc (runF fo lo ke sc mo iv xs).ex xs) (by
  show (runF fo lo ke sc mo iv xs).ex + upU fo sc xs = _
  unfold powV
  omega)
 unfold farV boundV
 rw [h2] at hsl ⊢
 have h' : farG (runF fo lo ke sc mo iv xs).X (binsG (2 ^ lo.toNat) (upX sc (oneB fo) mo xs) iv) (powV fo sc (runF fo lo ke sc mo iv xs).ex xs) (2 ^ lo.toNat) ≤ ofB sc ke lo (runF fo lo ke sc mo iv xs).sh * 2 ^ (powV fo sc (runF fo lo ke sc mo iv xs).ex xs + 2) := h
 clear h
 refine Int.le_trans h' ?_
 generalize ofB sc ke lo (runF fo lo ke sc mo iv xs).sh * 2 ^ (powV fo sc (runF fo lo ke sc mo iv xs).ex xs + 2) = z
 omega
theorem run_sat {fo lo ke sc mo : Int} {iv : Bool} {xs : List Gi} (hs : sc ≠ 2) : (runF fo lo ke sc mo iv xs).sat = false := by
 unfold runF runB15
 split
 ·rfl
 ·exact behind_sat hs iv _ _ _
theorem nearRuns_all (p : Option Addr) (l1 cap1 m1 : Nat) (fo lo ke sc mo : Int) (iv : Bool) (xs : List Gi) (hxn : xs.length = m1) (hm1 : m1 ≤ cap1) (hmin1 : (if (70 : Int) < (l1 : Int) then 70 else (l1 : Int)) = (m1 : Int)) (w : World) (hx : CxsAt w (.slice p m1 cap1) xs) :
 Calls Tryz.prog 4 #[.slice p l1 cap1, .agg #[.int .i64 fo, .int .i64 lo, .int .i64 ke, .int .i64 sc, .int .i64 mo, .bool iv]] w fun e w' => e = .returned (.bool true) ∧ Gr w w' := by
 subst hxn
 have HA := Lib.hid alive17_c
 by_cases h0 : whyB fo lo ke sc mo false xs = 0
 ·obtain ⟨hw, hlen, _, _⟩ := run_may (iv := iv) h0
  have HP := Lib.hid fun W h => fftRun_said.1 fo lo ke sc mo iv (.slice p xs.length cap1) xs h0 W h
  by_cases hs : (runF fo lo ke sc mo iv xs).sat = true
  ·have h2 : sc = 2 := by
    by_cases h2 : sc = 2
    ·exact h2
    ·rw [run_sat h2] at hs
     cases hs
   subst h2
   rw [hs] at HP
   exact runs17_t p l1 cap1 _ fo lo ke mo iv xs hm1 hmin1 _ _ _ _ HP (Lib.hid fun xp xc tp tc W a b c => nearWithin_yes fo lo ke 2 mo _ iv true p xp tp cap1 xc tc xs _ _ hw W a b c) HA w hx
  ·have hs' : (runF fo lo ke sc mo iv xs).sat = false := by simpa using hs
   rw [hs'] at HP
   refine runs17_f p l1 cap1 _ fo lo ke sc mo iv xs hm1 hmin1 _ _ _ HP (Lib.hid fun xp xc tp tc W a b c => ?_) HA w hx
   have h := nearWithin_yes fo lo ke sc mo _ iv false p xp tp cap1 xc tc xs _ _ hw W a b c
   rw [decide_eq_true (runV_near h0 hs')] at h
   exact h
 ·exact runs17_no p l1 cap1 _ fo lo ke sc mo iv xs hm1 hmin1 _ h0 (by simp [h0]) (Lib.hid fun W h => fftRun_said.2 fo lo ke sc mo iv _ xs _ rfl h0 W h) HA w hx
theorem nearHalf_all (p : Option Addr) (l1 cap1 m1 : Nat) (fo lo ke sc mo : Int) (iv : Bool) (xs : List Gi) (hxn : xs.length = m1) (h70 : m1 ≤ 70) (hm1 : m1 ≤ cap1) (hmin1 : (if (70 : Int) < (l1 : Int) then 70 else (l1 : Int)) = (m1 : Int)) (w : World) (hx : CxsAt w (.slice p m1 cap1) xs) :
 Calls Tryz.prog 5 #[.slice p l1 cap1, .agg #[.int .i64 fo, .int .i64 lo, .int .i64 ke, .int .i64 sc, .int .i64 mo, .bool iv]] w fun e w' => e = .returned (.bool true) ∧ Gr w w' := by
 subst hxn
 have HA := Lib.hid alive17_c
 by_cases h0 : whyB fo lo ke 0 mo false xs = 0
 ·obtain ⟨hw, hlen, hpow, hf⟩ := run_may (iv := iv) h0
  obtain ⟨h1, h2, h3⟩ := why_yes h0
  have H := plF_of h1
  have hm := manB_iff.1 h3
  obtain ⟨⟨l2, l6⟩, h4, _⟩ := H.lens
  have hlo := H.lo
  obtain ⟨⟨L, hL⟩, f1, f2, f3, f4, f5⟩ := near_facts (mo := mo) hw
  have hu : upU fo 0 xs = 0 := by unfold upU; rw [if_neg (by decide)]
  rw [hu] at hpow
  have hq := one_bd fo
  have hq2 : 1 ≤ oneB fo := by unfold oneB; split <;> decide
  obtain ⟨X, ex, sat, sh, hr⟩ : ∃ X ex sat sh, runF fo lo ke 0 mo iv xs = ⟨X, ex, sat, sh⟩ := ⟨_, _, _, _, rfl⟩
  rw [hr] at hw hlen hpow hf f1 f2 f4 f5
  simp only at hw hlen hpow hf f1 f2 f4 f5
  have HP := Lib.hid fun W h => fftRun_said.1 fo lo ke 0 mo iv (.slice p xs.length cap1) xs h0 W h
  rw [hr] at HP
  have hz : whyV fo lo ke 0 mo ex xs (List.replicate xs.length (⟨0, 0⟩ : Gi)) sh = 0 := by
   unfold whyV
   rw [if_pos h0, if_pos (List.length_replicate ..), if_pos ⟨manB_iff.2 (fun a ha => by rw [List.eq_of_mem_replicate ha]; simp only; omega), by omega, by omega⟩, if_pos hf]
  have hP : powV fo 0 ex xs ≤ 20 := by unfold powV; omega
  have hPe : (ex + 8).toNat = powV fo 0 ex xs + 8 := by unfold powV; omega
  have hbd := half_bound H sh hf (powV fo 0 ex xs) (maxG (upX 0 (oneB fo) mo xs)) (maxG_nonneg _) (maxG_le _ _ (by decide) ((allIn_iff _ _).1 f3))
  rw [← h2] at hbd
  have hub := up_part (6 * lo + 4) (powV fo 0 ex xs) hP ⟨by omega, by omega⟩
  refine half17_yes p l1 cap1 _ fo lo ke sc mo iv xs hm1 hmin1 h70 X ex sat sh (boundV fo lo ke 0 mo ex xs sh) (farV fo 0 mo ex iv xs (List.replicate xs.length (⟨0, 0⟩ : Gi))) (6 * lo) (6 * lo + 4) (ex + 8) ((6 * lo + 4) * 2 ^ (powV fo 0 ex xs + 8) + 66) ((6 * lo + 4) * 2 ^ (powV fo 0 ex xs + 8)) HP
   (Lib.hid fun xp xc tp tc W a b c => nearBound_yes fo lo ke 0 mo _ iv sat p xp tp cap1 xc tc xs _ _ hw W a b c) (Lib.hid fun xp xc tp tc W a b c => ?_) (Lib.hid fun xp xc tp tc W a b c => ?_)
   (Lib.hid ⟨IntWalk.wrap64_in _ ⟨by omega, by omega⟩, IntWalk.wrap64_in _ ⟨by omega, by omega⟩, IntWalk.wrap64_in _ ⟨by omega, by omega⟩, fun W => shl_run _ _ _ (by omega) (by omega) (by rw [hPe]; exact IntWalk.i64_in _ ⟨by omega, by omega⟩) W, IntWalk.wrap64_in _ ⟨by omega, by omega⟩, decide_eq_true hbd⟩) HA w hx
  ·have e : (List.replicate xs.length (⟨0, 0⟩ : Gi)).length = xs.length := List.length_replicate ..
   have h := nearFar_yes fo lo ke 0 mo ex iv false p xp tp cap1 xc tc xs (List.replicate xs.length (⟨0, 0⟩ : Gi)) sh hz W a (by rw [e]; exact b) c
   rw [e] at h
   exact h
  ·have e : (List.replicate xs.length (⟨0, 0⟩ : Gi)).length = xs.length := List.length_replicate ..
   have h := nearWithin_yes fo lo ke 0 mo ex iv false p xp tp cap1 xc tc xs (List.replicate xs.length (⟨0, 0⟩ : Gi)) sh hz W a (by rw [e]; exact b) c
   rw [e] at h
   exact h
 ·exact half17_no p l1 cap1 _ fo lo ke sc mo iv xs hm1 hmin1 _ h0 (by simp [h0]) (Lib.hid fun W h => fftRun_said.2 fo lo ke 0 mo iv _ xs _ rfl h0 W h) HA w hx
end
end Go.Proofs.YtcgeabpibkejpaaGreat
