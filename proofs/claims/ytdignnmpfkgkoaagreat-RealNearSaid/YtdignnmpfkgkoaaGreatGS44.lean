import Derived.Test.YtdignnmpfkgkoaaGreatGS43
namespace Go.Proofs.YtdignnmpfkgkoaaGreat
section
set_option linter.unusedVariables false
set_option linter.unusedSimpArgs false
set_option maxRecDepth 100000
theorem unt_end (T : Nat) (mo : Int) (hm : mo = 0 ∨ mo = 1 ∨ mo = 2) (a : Gi) (c : Int) : (untG T mo a a.conj ⟨c, 0⟩).im = 0 := by
 have e : (gadd (gscale T (gadd a a.conj)) (gmul (Gi.turn (-1) (gsub a a.conj)) ⟨c, 0⟩)).im = 0 := by
  rw [turn_back]
  simp only [gadd, gsub, gscale, gmul, Gi.conj]
  grind
 show rnd _ (T + 2) mo = 0
 rw [e]
 exact rnd_of_zero _ _ hm
theorem unt_zero (T : Nat) (mo : Int) (hm : mo = 0 ∨ mo = 1 ∨ mo = 2) (w : Gi) : untG T mo ⟨0, 0⟩ (Gi.conj ⟨0, 0⟩) w = ⟨0, 0⟩ := by
 have e : gadd (gscale T (gadd ⟨0, 0⟩ (Gi.conj ⟨0, 0⟩))) (gmul (Gi.turn (-1) (gsub ⟨0, 0⟩ (Gi.conj ⟨0, 0⟩))) w) = ⟨0, 0⟩ := by
  rw [turn_back]
  simp [gadd, gsub, gscale, gmul, Gi.conj]
 unfold untG
 rw [e]
 unfold grnd
 simp only [rnd_of_zero _ _ hm]
theorem unt_last (T : Nat) (mo : Int) (hm : mo = 0 ∨ mo = 1 ∨ mo = 2) (x : Int) : untG T mo ⟨x, x⟩ (Gi.conj ⟨x, x⟩) ⟨-(2 ^ T), 0⟩ = ⟨0, 0⟩ := by
 have e : gadd (gscale T (gadd ⟨x, x⟩ (Gi.conj ⟨x, x⟩))) (gmul (Gi.turn (-1) (gsub ⟨x, x⟩ (Gi.conj ⟨x, x⟩))) ⟨-(2 ^ T), 0⟩) = ⟨0, 0⟩ := by
  rw [turn_back]
  simp only [gadd, gsub, gscale, gmul, Gi.conj, Gi.mk.injEq]
  constructor <;> grind
 unfold untG
 rw [e]
 unfold grnd
 simp only [rnd_of_zero _ _ hm]
section
variable {fo b p lo ke sc mo : Int} {L m B : Nat}
theorem tw_first (H : PlF fo b p lo ke sc mo L m B) : (tw m B).getD 0 ⟨0, 0⟩ = ⟨2 ^ B, 0⟩ := by
 obtain ⟨_, h4, hlen⟩ := H.lens
 have hb : 12 ≤ B ∧ B ≤ 30 := by rcases H.sizes with h | h <;> omega
 rw [tw_eq, getD_map_range (by omega)]
 have h := root_zero m hlen (56 - B) (by omega) (by omega)
 rw [show 56 - (56 - B) = B by omega] at h
 exact h
theorem tw_half (H : PlF fo b p lo ke sc mo L (2 * m) B) : (tw (2 * m) B).getD m ⟨0, 0⟩ = ⟨-(2 ^ B), 0⟩ := by
 obtain ⟨_, h4, hlen⟩ := H.lens
 have hb : 12 ≤ B ∧ B ≤ 30 := by rcases H.sizes with h | h <;> omega
 rw [tw_eq, getD_map_range (by omega)]
 have h := root_zero (2 * m : Nat) hlen (56 - B) (by omega) (by omega)
 rw [show 56 - (56 - B) = B by omega] at h
 have e : ((m : Nat) : Int) = (0 : Int) + ((2 * m : Nat) : Int) / 4 + ((2 * m : Nat) : Int) / 4 := by unfold IsLen at hlen; omega
 rw [e, root_quarter _ _ hlen, root_quarter _ _ hlen, h]
 simp [Gi.turn]
theorem ends_im (H : PlF fo b p lo ke sc mo L (2 * m) B) {X : List Gi} (hX : X.length = m) : (untAt B mo X (tw (2 * m) B) 0).im = 0 ∧ (untAt B mo X (tw (2 * m) B) m).im = 0 := by
 obtain ⟨hmo, _⟩ := H.kinds
 unfold untAt
 rw [hX, tw_first H, tw_half H, Nat.sub_zero, Nat.sub_self, Nat.mod_self, Nat.zero_mod]
 exact ⟨unt_end _ _ hmo _ _, unt_end _ _ hmo _ _⟩
theorem zeros_unt (hmo : mo = 0 ∨ mo = 1 ∨ mo = 2) {X : List Gi} (h : AllO X) (ws : List Gi) (k : Nat) : untAt B mo X ws k = ⟨0, 0⟩ := by
 unfold untAt
 rw [h.getD, h.getD]
 exact unt_zero _ _ hmo _
theorem run_zeros (H : PlF fo b p lo ke sc mo L m B) (iv : Bool) {xs : List Gi} (hl : xs.length = m) (h : AllO xs) : AllO (runB15 ke lo sc mo p iv L B (tw m B) xs).X := allO_of (run_o H iv hl h.max).1
theorem fold_sum_sat {iv : Bool} {ws : List Gi} (n : Nat) (hn0 : 0 < n) (hw : rootOf ws iv 0 = ⟨2 ^ B, 0⟩) (hm : mo = 0 ∨ mo = 1 ∨ mo = 2) (a : Gi) : ∀ (l : List Gi) (h : Nat) (b : BV), 1 ≤ h → chainB n l h = true → b.X = sumF h n a → (l.foldl (nextB 2 mo p iv B ws) b).sat = false →
 (l.foldl (nextB 2 mo p iv B ws) b).X = sumF n n a
 | [], h, b, _, hc, hX, hs => by
   have := eq_of_beq hc
   subst this
   exact hX
 | q :: l, h, b, hh, hc, hX, hs => by
   simp only [chainB, Bool.and_eq_true, Bool.or_eq_true, beq_iff_eq] at hc
   rw [List.foldl_cons] at hs ⊢
   have hx := (next_X (fold_sat l _ hs)).1
   have e0 : shOf 2 q.re p b.X = 0 := rfl
   rw [e0] at hx
   unfold passV at hx
   obtain ⟨hi, ⟨⟨e, e2⟩, e3⟩ | ⟨⟨e, e2⟩, e3⟩⟩ := hc
   ·have hn : n = 2 * h * (n / (2 * h)) := by have := Nat.div_add_mod n (2 * h); omega
    rw [if_neg (by omega), hi, hX] at hx
    exact fold_sum_sat n hn0 hw hm a l (2 * h) _ (by omega) e3 (hx.trans (two_sum n h _ hn hh ws B hw mo hm a)) hs
   ·have hn : n = 4 * h * (n / (4 * h)) := by have := Nat.div_add_mod n (4 * h); omega
    rw [if_pos e, hi, hX] at hx
    exact fold_sum_sat n hn0 hw hm a l (4 * h) _ (by omega) e3 (hx.trans (four_sum n h _ hn hh ws B iv hw mo hm a)) hs
theorem run_same (H : PlF fo b p lo ke 2 mo L m B) (iv : Bool) (a : Gi) (hs : (runB15 ke lo 2 mo p iv L B (tw m B) (impF m m a)).sat = false) : (runB15 ke lo 2 mo p iv L B (tw m B) (impF m m a)).X = sumF m m a := by
 obtain ⟨hmo, _, hks, k0, k1⟩ := H.kinds
 obtain ⟨⟨l2, l6⟩, h4, hlen⟩ := H.lens
 have hlo := H.lo
 have hk2 : ¬ ke = 2 := fun h => by have := hks h; omega
 have hc := passL_chain ke lo (by omega) (by omega) (by omega)
 rw [show lo.toNat = L by omega, ← H.n] at hc
 have hw := roots_first (m : Int) hlen B (by rcases H.sizes with h | h <;> omega) iv
 simp only [runB15, if_neg hk2, behindB, List.take_length] at hs ⊢
 exact fold_sum_sat m (by omega) hw hmo a (passL ke lo) 1 (readyB ke 2 mo p L (impF m m a)) (Nat.le_refl _) hc
  (by unfold readyB; rw [if_neg hk2]; show (flipL _ _).map (shG 0 mo) = _; rw [sh_none, flip_all L _ H.n, sum_one]) hs
theorem same_unt (H : PlF fo b p lo ke sc mo L (2 * m) B) (r : Int) (k : Nat) (hk : k ≤ m) (h0 : k ≠ 0) : untAt B mo (sumF m m ⟨r, r⟩) (tw (2 * m) B) k = ⟨0, 0⟩ := by
 obtain ⟨hmo, _⟩ := H.kinds
 have hm : 0 < m := by have := H.lens.2.1; omega
 unfold untAt
 rw [sum_len]
 by_cases hkm : k = m
 ·subst hkm
  rw [Nat.mod_self, Nat.sub_self, Nat.zero_mod, tw_half H, sum_get _ _ _ _ hm, if_pos (Nat.zero_mod _)]
  exact unt_last _ _ hmo _
 ·have e1 : k % m = k := Nat.mod_eq_of_lt (by omega)
  have e2 : (m - k) % m = m - k := Nat.mod_eq_of_lt (by omega)
  rw [e1, e2, sum_get _ _ _ _ (by omega), sum_get _ _ _ _ (by omega), e1, e2, if_neg h0, if_neg (by omega)]
  exact unt_zero _ _ hmo _
end
theorem pack_same (rs : List Int) (r : Int) (h : ∀ x ∈ rs, x = r) : packG rs = impF (rs.length / 2) (rs.length / 2) ⟨r, r⟩ := by
 have hg : ∀ j, j < rs.length → rs.getD j 0 = r := fun j hj => by
  rw [List.getD_eq_getElem?_getD, List.getElem?_eq_getElem hj]
  exact h _ (List.getElem_mem hj)
 unfold packG impF
 refine List.map_congr_left fun j hj => ?_
 have hj := List.mem_range.1 hj
 rw [hg _ (by omega), hg _ (by omega), if_pos hj]
theorem pack_zero (rs : List Int) (h : ∀ x ∈ rs, x = 0) : AllO (packG rs) := by
 rw [pack_same rs 0 h]
 intro a ha
 obtain ⟨j, _, rfl⟩ := List.mem_map.1 ha
 split <;> rfl
end
section
open Go.ChangeShapes Go.WideShapes Go.ChangeAt Go.RowKit
set_option linter.unusedVariables false
set_option linter.unusedSimpArgs false
set_option maxRecDepth 100000
theorem untV_at (fo lo sc mo : Int) (k : BV) (j : Nat) (hj : j < k.X.length + 1) : (untV fo lo sc mo k).X[j]? = some (if sc = 2 then clampG (oneB fo) (untAt (bitB fo) mo k.X (tw (2 * 2 ^ lo.toNat) (bitB fo)) j) else untAt (bitB fo) mo k.X (tw (2 * 2 ^ lo.toNat) (bitB fo)) j) := by
 unfold untV untB untL
 simp only
 split
 ·rw [List.getElem?_map, List.getElem?_map, List.getElem?_range hj]
  rfl
 ·rw [List.getElem?_map, List.getElem?_range hj]
  rfl
theorem untV_mem {fo lo sc mo : Int} {k : BV} {a : Gi} (h : a ∈ (untV fo lo sc mo k).X) : ∃ j, j < k.X.length + 1 ∧ a = if sc = 2 then clampG (oneB fo) (untAt (bitB fo) mo k.X (tw (2 * 2 ^ lo.toNat) (bitB fo)) j) else untAt (bitB fo) mo k.X (tw (2 * 2 ^ lo.toNat) (bitB fo)) j := by
 obtain ⟨j, hj⟩ := List.mem_iff_getElem?.1 h
 have hl := (List.getElem?_eq_some_iff.1 hj).1
 rw [untV_len] at hl
 rw [untV_at fo lo sc mo k j hl] at hj
 exact ⟨j, hl, (Option.some.inj hj).symm⟩
theorem one_pos (fo : Int) : 1 ≤ oneB fo := by unfold oneB; split <;> decide
theorem clamp_zero (fo : Int) : clampI (oneB fo) 0 = 0 := clampI_id _ _ (by have := one_pos fo; omega) (by have := one_pos fo; omega)
theorem binV_ends {fo lo ke sc mo : Int} {iv : Bool} {rs : List Int} (h0 : whyR fo lo ke sc mo iv rs = 0) : ∃ m : Nat, rs.length = 2 * m ∧ (4 ≤ m ∧ m ≤ 32) ∧ (binV fo lo ke sc mo rs).X.length = m + 1 ∧ (∃ x0, (binV fo lo ke sc mo rs).X[0]? = some ⟨x0, 0⟩) ∧ (∃ x1, (binV fo lo ke sc mo rs).X[m]? = some ⟨x1, 0⟩) ∧ ManB (oneB fo) (binV fo lo ke sc mo rs).X ∧
 ((∀ x ∈ rs, x = 0) → ∀ a ∈ (binV fo lo ke sc mo rs).X, a = ⟨0, 0⟩) ∧ (∀ r, sc = 2 → (binV fo lo ke sc mo rs).sat = false → (∀ x ∈ rs, x = r) → ∀ k a, 0 < k → (binV fo lo ke sc mo rs).X[k]? = some a → a = ⟨0, 0⟩) := by
 obtain ⟨⟨h1, h5, hiv⟩, hl, hw⟩ := whyR_yes h0
 obtain ⟨r1, r2, _, _, _⟩ := runF_facts (iv := false) hw
 obtain ⟨_, w2, w3⟩ := why_yes hw
 have H := plF_of h1
 have H2 := H.twice (by omega)
 obtain ⟨⟨l2, l6⟩, ⟨h4, h64⟩, _⟩ := H.lens
 obtain ⟨hmo, hsc, _⟩ := H.kinds
 have hm := manB_iff.1 w3
 have hmm : 2 ^ lo.toNat ≤ 32 := by
  have h : lo.toNat = 2 ∨ lo.toNat = 3 ∨ lo.toNat = 4 ∨ lo.toNat = 5 := by omega
  rcases h with h | h | h | h <;> rw [h] <;> decide
 have hends := ends_im H2 r1
 have hcz := clamp_zero fo
 have hat : ∀ k, k ≤ 2 ^ lo.toNat → (binV fo lo ke sc mo rs).X[k]? = _ := fun k hk => untV_at fo lo sc mo (runF fo lo ke sc mo false (packG rs)) k (by omega)
 have him : ∀ k, (untAt (bitB fo) mo (runF fo lo ke sc mo false (packG rs)).X (tw (2 * 2 ^ lo.toNat) (bitB fo)) k).im = 0 → ∃ x, (if sc = 2 then clampG (oneB fo) (untAt (bitB fo) mo (runF fo lo ke sc mo false (packG rs)).X (tw (2 * 2 ^ lo.toNat) (bitB fo)) k) else untAt (bitB fo) mo (runF fo lo ke sc mo false (packG rs)).X (tw (2 * 2 ^ lo.toNat) (bitB fo)) k) = ⟨x, 0⟩ := fun k h => by
  generalize untAt (bitB fo) mo (runF fo lo ke sc mo false (packG rs)).X (tw (2 * 2 ^ lo.toNat) (bitB fo)) k = a at *
  obtain ⟨re, im⟩ := a
  simp only at h
  subst h
  split
  ·exact ⟨clampI (oneB fo) re, by unfold clampG; simp only [hcz]⟩
  ·exact ⟨re, rfl⟩
 refine ⟨2 ^ lo.toNat, hl, ⟨h4, hmm⟩, by unfold binV; rw [untV_len, r1], ?_, ?_, ?_, ?_, ?_⟩
 ·obtain ⟨x, hx⟩ := him 0 hends.1
  exact ⟨x, by rw [hat 0 (by omega), hx]⟩
 ·obtain ⟨x, hx⟩ := him (2 ^ lo.toNat) hends.2
  exact ⟨x, by rw [hat _ (Nat.le_refl _), hx]⟩
 ·intro a ha
  obtain ⟨j, hj, rfl⟩ := untV_mem ha
  rw [r1] at hj
  by_cases h2 : sc = 2
  ·rw [if_pos h2]
   unfold clampG
   exact ⟨clampI_in _ _ (one_pos fo), clampI_in _ _ (one_pos fo)⟩
  ·rw [if_neg h2]
   have hlen := run_len H h2 false w2 hm
   have hmem : ∀ i, i < 2 ^ lo.toNat → (runF fo lo ke sc mo false (packG rs)).X.getD i ⟨0, 0⟩ ∈ (runF fo lo ke sc mo false (packG rs)).X := fun i hi => getD_mem _ _ (by omega)
   unfold untAt
   rw [r1]
   exact unt_man H (hlen _ (hmem _ (Nat.mod_lt _ (by omega)))) (hlen _ (hmem _ (Nat.mod_lt _ (by omega)))).conj (H2.roots false j)
 ·intro hz a ha
  obtain ⟨j, hj, rfl⟩ := untV_mem ha
  have h := zeros_unt (B := bitB fo) hmo (run_zeros H false (xs := packG rs) (by rw [packG_len]; omega) (pack_zero rs hz)) (tw (2 * 2 ^ lo.toNat) (bitB fo)) j
  rw [show untAt (bitB fo) mo (runF fo lo ke sc mo false (packG rs)).X (tw (2 * 2 ^ lo.toNat) (bitB fo)) j = ⟨0, 0⟩ from h]
  split
  ·unfold clampG; simp only [hcz]
  ·rfl
 ·intro r h2 hs hr k a hk ha
  subst h2
  have hkl : k ≤ 2 ^ lo.toNat := by
   have := (List.getElem?_eq_some_iff.1 ha).1
   rw [show (binV fo lo ke 2 mo rs).X.length = 2 ^ lo.toNat + 1 by unfold binV; rw [untV_len, r1]] at this
   omega
  have hs2 : (runF fo lo ke 2 mo false (packG rs)).sat = false := by
   have : ((runF fo lo ke 2 mo false (packG rs)).sat || (untL (bitB fo) mo (runF fo lo ke 2 mo false (packG rs)).X (tw (2 * 2 ^ lo.toNat) (bitB fo))).any (offG (oneB fo))) = false := hs
   exact (Bool.or_eq_false_iff.1 this).1
  have hpk := pack_same rs r hr
  rw [show rs.length / 2 = 2 ^ lo.toNat by omega] at hpk
  have hX : (runF fo lo ke 2 mo false (packG rs)).X = sumF (2 ^ lo.toNat) (2 ^ lo.toNat) ⟨r, r⟩ := by
   rw [hpk] at hs2 ⊢
   exact run_same H false ⟨r, r⟩ hs2
  rw [hat k hkl, if_pos rfl, hX, show untAt (bitB fo) mo (sumF (2 ^ lo.toNat) (2 ^ lo.toNat) ⟨r, r⟩) (tw (2 * 2 ^ lo.toNat) (bitB fo)) k = ⟨0, 0⟩ from same_unt H2 r k hkl (by omega)] at ha
  rw [← Option.some.inj ha]
  unfold clampG
  simp only [hcz]
theorem realEnds_all (p : Option Addr) (l1 cap1 m1 : Nat) (fo lo ke sc mo : Int) (iv : Bool) (xs : List Int) (hxl : xs.length = m1) (h140 : m1 ≤ 140) (hm1 : m1 ≤ cap1) (hmin1 : (if (140 : Int) < (l1 : Int) then 140 else (l1 : Int)) = (m1 : Int)) (w : World) (hx : NumsAt w (.slice p m1 cap1) xs) :
 Calls Tryz.prog 5 #[.slice p l1 cap1, .agg #[.int .i64 fo, .int .i64 lo, .int .i64 ke, .int .i64 sc, .int .i64 mo, .bool iv]] w fun e w' => e = .returned (.bool true) ∧ Gr w w' := by
 have HA := Lib.hid alive18_c
 by_cases h0 : whyR fo lo ke sc mo iv xs = 0
 ·obtain ⟨⟨k1, k5, kiv⟩, _, _⟩ := whyR_yes h0
  have H := plF_of k1
  obtain ⟨m, f1, ⟨f2, f3⟩, f4, ⟨x0, f5⟩, ⟨x1, f6⟩, fM, f7, f8⟩ := binV_ends h0
  have hn0 : 0 < xs.length := by omega
  obtain ⟨r0, hr0⟩ := get_of_lt hn0
  have HB := Lib.hid fun W h => realBins_yes fo lo ke sc mo iv p m1 cap1 xs hxl h0 W h
  have HC : Hid (∀ a ∈ (binV fo lo ke sc mo xs).X, (∀ W, Calls Tryz.prog 23 #[.int .i64 a.re, .int .i64 fo] W fun e w' => e = .returned (.tuple #[.int .i64 a.re, .bool false, .int .i64 0]) ∧ Gr W w') ∧ (∀ W, Calls Tryz.prog 23 #[.int .i64 a.im, .int .i64 fo] W fun e w' => e = .returned (.tuple #[.int .i64 a.im, .bool false, .int .i64 0]) ∧ Gr W w')) := Lib.hid fun a ha => by
   have hb := fM a ha
   refine ⟨fun W => ?_, fun W => ?_⟩
   ·have := clamp_c fo _ (oneB fo) a.re H.fb W
    rw [clampI_id _ _ hb.1.1 hb.1.2, bne_self_eq_false] at this
    exact this
   ·have := clamp_c fo _ (oneB fo) a.im H.fb W
    rw [clampI_id _ _ hb.2.1 hb.2.2, bne_self_eq_false] at this
    exact this
  have HMM : Hid (0 < m + 1 ∧ (m1 : Int) / 2 = (m : Int) ∧ IntKind.i64.wrap ((m : Int) + 1) = (m : Int) + 1 ∧ (m : Int) < (m : Int) + 1 ∧ (0 : Int) < (m : Int) + 1) := Lib.hid ⟨by omega, by omega, IntWalk.i64_in _ ⟨by omega, by omega⟩, by omega, by omega⟩
  by_cases h2 : sc = 2
  ·subst h2
   cases hs : (binV fo lo ke 2 mo xs).sat
   ·rw [hs] at HB
    exact ends18_f p l1 cap1 m1 fo lo ke mo iv xs hm1 hmin1 hxl (by omega) h140 (binV fo lo ke 2 mo xs).X m (binV fo lo ke 2 mo xs).ex x0 x1 r0 _ HB HC (Lib.hid f4) HMM (Lib.hid f5) (Lib.hid f6) hr0 (fun j => (xs.take j).all fun x => x == 0) (fun j => (xs.take j).all fun x => x == r0) (Lib.hid ⟨⟨rfl, rfl⟩, fun j x hj => ⟨by simp only [List.take_add_one, hj, Option.toList_some, List.all_append, List.all_cons, List.all_nil, Bool.and_true], by simp only [List.take_add_one, hj, Option.toList_some, List.all_append, List.all_cons, List.all_nil, Bool.and_true]⟩⟩) (Lib.hid fun h => f7 fun x hx => by rw [List.take_of_length_le (by omega), List.all_eq_true] at h; simpa using h x hx) (Lib.hid fun h => f8 r0 rfl hs fun x hx => by rw [List.take_of_length_le (by omega), List.all_eq_true] at h; simpa using h x hx) HA w hx
   ·rw [hs] at HB
    exact ends18_t p l1 cap1 m1 fo lo ke mo iv xs hm1 hmin1 hxl (by omega) h140 (binV fo lo ke 2 mo xs).X m (binV fo lo ke 2 mo xs).ex x0 x1 r0 _ HB HC (Lib.hid f4) HMM (Lib.hid f5) (Lib.hid f6) hr0 (fun j => (xs.take j).all fun x => x == 0) (fun j => (xs.take j).all fun x => x == r0) (Lib.hid ⟨⟨rfl, rfl⟩, fun j x hj => ⟨by simp only [List.take_add_one, hj, Option.toList_some, List.all_append, List.all_cons, List.all_nil, Bool.and_true], by simp only [List.take_add_one, hj, Option.toList_some, List.all_append, List.all_cons, List.all_nil, Bool.and_true]⟩⟩) (Lib.hid fun h => f7 fun x hx => by rw [List.take_of_length_le (by omega), List.all_eq_true] at h; simpa using h x hx) HA w hx
  ·exact ends18_n p l1 cap1 m1 fo lo ke sc mo iv xs hm1 hmin1 hxl (by omega) h140 (binV fo lo ke sc mo xs).X m (binV fo lo ke sc mo xs).ex x0 x1 r0 (binV fo lo ke sc mo xs).sat (by simpa using h2) _ HB HC (Lib.hid f4) HMM (Lib.hid f5) (Lib.hid f6) hr0 (fun j => (xs.take j).all fun x => x == 0) (fun j => (xs.take j).all fun x => x == r0) (Lib.hid ⟨⟨rfl, rfl⟩, fun j x hj => ⟨by simp only [List.take_add_one, hj, Option.toList_some, List.all_append, List.all_cons, List.all_nil, Bool.and_true], by simp only [List.take_add_one, hj, Option.toList_some, List.all_append, List.all_cons, List.all_nil, Bool.and_true]⟩⟩) (Lib.hid fun h => f7 fun x hx => by rw [List.take_of_length_le (by omega), List.all_eq_true] at h; simpa using h x hx) HA w hx
 ·exact ends18_no p l1 cap1 m1 fo lo ke sc mo iv xs hm1 hmin1 _ h0 (by simp [h0]) (Lib.hid fun W h => realBins_no fo lo ke sc mo iv p m1 cap1 xs hxl (by omega) _ rfl h0 W h) HA w hx
end
end Go.Proofs.YtdignnmpfkgkoaaGreat
