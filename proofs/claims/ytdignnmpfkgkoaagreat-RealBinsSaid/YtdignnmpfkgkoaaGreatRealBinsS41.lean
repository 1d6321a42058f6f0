import Derived.Test.YtdignnmpfkgkoaaGreatRealBinsS35
import Derived.Test.YtdignnmpfkgkoaaGreatRealBinsS40
namespace Go.Proofs.YtdignnmpfkgkoaaGreat
set_option maxHeartbeats 16000000
section
open Go.ChangeShapes Go.WideShapes Go.ChangeAt Go.RowKit
set_option linter.unusedVariables false
set_option maxRecDepth 100000
set_option maxHeartbeats 16000000
theorem log08_none (n : Nat) (h : ¬ ∃ L, IsLog (n : Int) L) (w : World) : Calls Tryz.prog 34 #[n] w fun e w' => e = .returned (.tuple #[.int .i64 0, .int .i64 3]) ∧ w' = w := by
 have h4 : (n : Int) ≠ 4 := fun e => h ⟨2, by omega, by omega, by rw [e]; try rfl⟩
 have h8 : (n : Int) ≠ 8 := fun e => h ⟨3, by omega, by omega, by rw [e]; try rfl⟩
 have h16 : (n : Int) ≠ 16 := fun e => h ⟨4, by omega, by omega, by rw [e]; try rfl⟩
 have h32 : (n : Int) ≠ 32 := fun e => h ⟨5, by omega, by omega, by rw [e]; try rfl⟩
 have h64 : (n : Int) ≠ 64 := fun e => h ⟨6, by omega, by omega, by rw [e]; try rfl⟩
 exact log08_no n h4 h8 h16 h32 h64 w
theorem tErr_c (px pw : Option Addr) (cx cw : Nat) (xs ws : List Gi) (n m : Nat) (hh : Int) (part : Bool) (b s mo e : Int) (inx inw : Bool) (hp : part = true ↔ HalfOk2 hh n) (hx : inx = allIn 2147483648 xs) (hw : ∀ B : Nat, b = (B : Int) → B ≤ 29 → inw = allIn (2 ^ B) ws)
 (h : WhyIs n m part b s mo inx inw e) (w : World) (hvx : CxsAt w (.slice px n cx) xs) (hvw : CxsAt w (.slice pw m cw) ws) :
 Calls Tryz.prog 182 #[.agg #[b, s, mo], .slice px n cx, .slice pw m cw, hh] w fun e' w' => e' = .returned (.int .i64 e) ∧ Gr w w' := by
 have VX := kh hvx
 have VW := kh hvw
 have HP := kh fun (hn : n ≤ 70) => tHalves_c hh n hn part hp
 have nl : ∀ L, IsLog (n : Int) L → n ≤ 70 := fun L hL => by rcases isLog_cases hL with h | h | h | h | h <;> omega
 clear hvx hvw hp
 rcases h with ⟨h1, rfl⟩ | ⟨⟨L, h1⟩, h2, rfl⟩ | ⟨⟨L, h1⟩, h2, h3, rfl⟩ | ⟨⟨L, h1⟩, h2, h3, h4, h5, rfl⟩ | ⟨⟨L, h1⟩, h2, h3, h4, h5, h6, rfl⟩
 ·have HL := kh (log08_none n h1)
  clear h1 hx hw nl;go_in
  go_wp2_with (first | (go_at_call 34; refine (HL.out _).mono ?_; rintro e wz ⟨rfl, rfl⟩))
  go_ret
  exact ⟨rfl, (Gr.refl _).alloc _ _⟩
 ·have HL := kh (log08_yes n L h1)
  have hne : ((m : Int) != n) = true := by simp; omega
  clear h1 hx hw h2 nl;go_in
  go_wp2_with (first | (go_at_call 34; refine (HL.out _).mono ?_; rintro e wz ⟨rfl, rfl⟩))
  go_ret
  exact ⟨rfl, (Gr.refl _).alloc _ _⟩
 ·have HL := kh (log08_yes n L h1)
  have HP2 := kh (HP.out (nl L h1));subst h2;clear h1 hx hw HP nl
  rcases h3 with rfl | h3
  ·go_in
   go_wp2_with (first | (go_at_call 34; refine (HL.out _).mono ?_; rintro e wz ⟨rfl, rfl⟩) | (go_at_call 200; refine (HP2.out _).mono ?_; rintro e wz ⟨rfl, rfl⟩))
   go_ret
   exact ⟨rfl, (Gr.refl _).alloc _ _⟩
  ·have HS := kh (tMayBe_no b s mo h3)
   clear h3
   cases part
   ·go_in
    go_wp2_with (first | (go_at_call 34; refine (HL.out _).mono ?_; rintro e wz ⟨rfl, rfl⟩) | (go_at_call 200; refine (HP2.out _).mono ?_; rintro e wz ⟨rfl, rfl⟩))
    go_ret
    exact ⟨rfl, (Gr.refl _).alloc _ _⟩
   ·go_in
    go_wp2_with (first | (go_at_call 34; refine (HL.out _).mono ?_; rintro e wz ⟨rfl, rfl⟩) | (go_at_call 200; refine (HP2.out _).mono ?_; rintro e wz ⟨rfl, rfl⟩))
    refine (HS.out _).mono ?_;rintro e w2 ⟨rfl, g2⟩;go_wp2_with fail
    go_ret
    exact ⟨rfl, ((Gr.refl _).alloc _ _).trans g2⟩
 ·have HL := kh (log08_yes n L h1)
  have HP2 := kh (HP.out (nl L h1));have HS := kh (tMayBe_yes b s mo h4);subst h2;subst h3
  obtain ⟨B, rfl⟩ : ∃ B : Nat, b = (B : Int) := ⟨b.toNat, by have := h4.1.1; omega⟩
  have hB : B ≤ 29 := by have := h4.1.2; omega
  have HN := kh fun W (hW : CxsAt W (.slice px m cx) xs) => tWithin_c _ xs 2147483648 (by omega) (by omega) W hW
  have hPb : (2 : Int) ^ B ≤ 2147483648 := pow_le31 B (by omega)
  have hP0 := pow_pos2 B
  have hPw : wrap64 (2 ^ B) = 2 ^ B := IntWalk.wrap64_in _ ⟨by omega, by omega⟩
  have HR := kh fun W (hW : CxsAt W (.slice pw m cw) ws) => tWithin_c _ ws (2 ^ B) (by omega) hPb W hW
  rw [← hx] at HN;rw [← hw B rfl hB] at HR;rw [← hPw] at HR;clear h1 hx hw h4 HP nl hPb hP0 hPw
  cases inx
  ·clear HR h5
   go_in
   go_wp2_with (first | (go_at_call 34; refine (HL.out _).mono ?_; rintro e wz ⟨rfl, rfl⟩) | (go_at_call 200; refine (HP2.out _).mono ?_; rintro e wz ⟨rfl, rfl⟩))
   refine (HS.out _).mono ?_;rintro e w2 ⟨rfl, g2⟩;have gw2 := ((Gr.refl _).alloc _ _).trans g2;go_wp2_with fail;refine (HN.out _ (VX.out.gr gw2)).mono ?_;rintro e w3 ⟨rfl, g3⟩;go_wp2_with fail
   go_ret
   exact ⟨rfl, gw2.trans g3⟩
  ·rw [Bool.true_and] at h5
   subst h5;go_in
   go_wp2_with (first | (go_at_call 34; refine (HL.out _).mono ?_; rintro e wz ⟨rfl, rfl⟩) | (go_at_call 200; refine (HP2.out _).mono ?_; rintro e wz ⟨rfl, rfl⟩))
   refine (HS.out _).mono ?_;rintro e w2 ⟨rfl, g2⟩;have gw2 := ((Gr.refl _).alloc _ _).trans g2;go_wp2_with fail;refine (HN.out _ (VX.out.gr gw2)).mono ?_;rintro e w3 ⟨rfl, g3⟩;have gw3 := gw2.trans g3;have c0 := (g2.trans g3).cell (p := ⟨w.heap.size, 0, none⟩) (by simp);go_wp2_with fail;refine (HR.out _ (VW.out.gr gw3)).mono ?_;rintro e w4 ⟨rfl, g4⟩;go_wp2_with fail
   go_ret
   exact ⟨rfl, gw3.trans g4⟩
 ·have HL := kh (log08_yes n L h1)
  have HP2 := kh (HP.out (nl L h1));have HS := kh (tMayBe_yes b s mo h4);subst h2;subst h3;subst h5;subst h6
  obtain ⟨B, rfl⟩ : ∃ B : Nat, b = (B : Int) := ⟨b.toNat, by have := h4.1.1; omega⟩
  have hB : B ≤ 29 := by have := h4.1.2; omega
  have HN := kh fun W (hW : CxsAt W (.slice px m cx) xs) => tWithin_c _ xs 2147483648 (by omega) (by omega) W hW
  have hPb : (2 : Int) ^ B ≤ 2147483648 := pow_le31 B (by omega)
  have hP0 := pow_pos2 B
  have hPw : wrap64 (2 ^ B) = 2 ^ B := IntWalk.wrap64_in _ ⟨by omega, by omega⟩
  have HR := kh fun W (hW : CxsAt W (.slice pw m cw) ws) => tWithin_c _ ws (2 ^ B) (by omega) hPb W hW
  rw [← hx] at HN;rw [← hw B rfl hB] at HR;rw [← hPw] at HR;clear h1 hx hw h4 HP nl hPb hP0 hPw;go_in
  go_wp2_with (first | (go_at_call 34; refine (HL.out _).mono ?_; rintro e wz ⟨rfl, rfl⟩) | (go_at_call 200; refine (HP2.out _).mono ?_; rintro e wz ⟨rfl, rfl⟩))
  refine (HS.out _).mono ?_;rintro e w2 ⟨rfl, g2⟩;have gw2 := ((Gr.refl _).alloc _ _).trans g2;go_wp2_with fail;refine (HN.out _ (VX.out.gr gw2)).mono ?_;rintro e w3 ⟨rfl, g3⟩;have gw3 := gw2.trans g3;have c0 := (g2.trans g3).cell (p := ⟨w.heap.size, 0, none⟩) (by simp);go_wp2_with fail;refine (HR.out _ (VW.out.gr gw3)).mono ?_;rintro e w4 ⟨rfl, g4⟩;go_wp2_with fail
  go_ret
  exact ⟨rfl, gw3.trans g4⟩
theorem tPair_c (a b w : Gi) (bits s : Nat) (mo : Int) (hb : bits ≤ 29) (hs : s ≤ 3) (m0 : 0 ≤ mo) (m1 : mo ≤ 2) (ha : absI a.re ≤ 2147483648 ∧ absI a.im ≤ 2147483648) (hbb : absI b.re ≤ 2147483648 ∧ absI b.im ≤ 2147483648) (hw : absI w.re ≤ 2 ^ bits ∧ absI w.im ≤ 2 ^ bits) (W : World) :
 Calls Tryz.prog 184 #[.agg #[bits, s, mo], .agg #[a.re, a.im], .agg #[b.re, b.im], .agg #[w.re, w.im]] W fun e w' => e = .returned (.tuple #[.agg #[(pairUp bits s mo a b w).re, (pairUp bits s mo a b w).im], .agg #[(pairDown bits s mo a b w).re, (pairDown bits s mo a b w).im]]) ∧ Gr W w' := by
 obtain ⟨hm, h1, h2, h3, h4⟩ := pair_nums a b w bits hb ha hbb hw
 have m1' := hm b.re w.re (.inl rfl) (.inl rfl)
 have m2' := hm b.im w.im (.inr rfl) (.inr rfl)
 have m3' := hm b.re w.im (.inl rfl) (.inr rfl)
 have m4' := hm b.im w.re (.inr rfl) (.inl rfl)
 have a1 := absI_le.1 ha.1
 have a2 := absI_le.1 ha.2
 have b1 := absI_le.1 hbb.1
 have b2 := absI_le.1 hbb.2
 have w1 := absI_le.1 hw.1
 have w2 := absI_le.1 hw.2
 have HM := cxtimes_ok a.re a.im (2 ^ bits) 0 (by simp only [Bool.or_eq_true, Bool.and_eq_true, inB_iff]; omega)
 rw [Int.mul_zero, Int.mul_zero, Int.sub_zero, Int.zero_add] at HM
 have hsn : ((bits : Int) + s).toNat = bits + s := by omega
 have HF := cxshift_ok (a.re * 2 ^ bits + (gmul b w).re) (a.im * 2 ^ bits + (gmul b w).im) ((bits : Int) + s) mo (by unfold gmul; simp only; omega) (by unfold gmul; simp only; omega) (by omega) (by omega) m0 m1
 have HG := cxshift_ok (a.re * 2 ^ bits - (gmul b w).re) (a.im * 2 ^ bits - (gmul b w).im) ((bits : Int) + s) mo (by unfold gmul; simp only; omega) (by unfold gmul; simp only; omega) (by omega) (by omega) m0 m1
 rw [hsn] at HF HG
 exact tPair_of a.re a.im b.re b.im w.re w.im bits s mo (2 ^ bits) ((bits : Int) + s) (a.re * 2 ^ bits) (a.im * 2 ^ bits) (gmul b w).re (gmul b w).im (a.re * 2 ^ bits + (gmul b w).re) (a.im * 2 ^ bits + (gmul b w).im) (a.re * 2 ^ bits - (gmul b w).re) (a.im * 2 ^ bits - (gmul b w).im) _ _ _ _
  (by rw [Int.toNat_natCast, show min bits 64 = bits by omega]; exact IntWalk.i64_in _ ⟨by omega, by omega⟩) (by omega)
  (kh (tDown_c bits s mo _ (IntWalk.i64_in _ ⟨by omega, by omega⟩)))
  (kh HM)
  (kh (cxtimes_ok b.re b.im w.re w.im (by simp only [Bool.or_eq_true, Bool.and_eq_true, inB_iff]; omega)))
  (kh (cxsum_ok _ _ _ _ (by simp only [Bool.and_eq_true, inB_iff]; unfold gmul; simp only; omega)))
  (kh (cxless_ok _ _ _ _ (by simp only [Bool.and_eq_true, inB_iff]; unfold gmul; simp only; omega)))
  (kh HF) (kh HG) W
end
section
open Go.ChangeShapes Go.WideShapes Go.ChangeAt Go.RowKit
set_option linter.unusedVariables false
end
section
open Go.ChangeShapes Go.WideShapes Go.ChangeAt Go.RowKit Go.Shelf
set_option linter.unusedVariables false
attribute [local go_sem] wide_fn Oper.semAt_some
theorem pair_at (n h u q : Nat) (hn : n = 2 * h * u) (h1 : 1 ≤ h) (hq : q < h * u) :
 (pairAt h u q).a < n ∧ (pairAt h u q).b < n ∧ (pairAt h u q).r < n ∧ ∀ (xs ws : List Gi) (bits s : Nat) (mo : Int) (inv : Bool), xs.length = n →
  twoAt xs ws h bits s mo inv (pairAt h u q).a = pairUp bits s mo (xs.getD (pairAt h u q).a ⟨0, 0⟩) (xs.getD (pairAt h u q).b ⟨0, 0⟩) (rootOf ws inv (pairAt h u q).r) ∧
  twoAt xs ws h bits s mo inv (pairAt h u q).b = pairDown bits s mo (xs.getD (pairAt h u q).a ⟨0, 0⟩) (xs.getD (pairAt h u q).b ⟨0, 0⟩) (rootOf ws inv (pairAt h u q).r) := by
 obtain ⟨k, hk⟩ : ∃ k, k = q / h := ⟨_, rfl⟩
 obtain ⟨j, hj⟩ : ∃ j, j = q % h := ⟨_, rfl⟩
 have hjh : j < h := by rw [hj]; exact Nat.mod_lt _ h1
 have hku : k < u := by rw [hk, Nat.div_lt_iff_lt_mul h1, Nat.mul_comm u]; exact hq
 have e : pairAt h u q = ⟨2 * h * k + j, 2 * h * k + h + j, j * u⟩ := by unfold pairAt; rw [← hk, ← hj]
 rw [e]
 have h2 : 2 * h * (k + 1) ≤ 2 * h * u := Nat.mul_le_mul_left _ hku
 rw [Nat.mul_succ] at h2
 have h3 : j * u ≤ h * u := Nat.mul_le_mul_right _ (by omega)
 have h4 : 1 * 1 ≤ h * u := Nat.mul_le_mul h1 (by omega)
 have h5 : n = 2 * (h * u) := by rw [hn, Nat.mul_assoc]
 have hd : 0 < 2 * h := by omega
 have m1 : (2 * h * k + j) % (2 * h) = j := by rw [Nat.mul_add_mod, Nat.mod_eq_of_lt (by omega)]
 have m2 : (2 * h * k + h + j) % (2 * h) = h + j := by rw [Nat.add_assoc, Nat.mul_add_mod, Nat.mod_eq_of_lt (by omega)]
 have m3 : n / (2 * h) = u := by rw [hn]; exact Nat.mul_div_cancel_left u hd
 refine ⟨by simp only; omega, by simp only; omega, by simp only; omega, fun xs ws bits s mo inv hx => ?_⟩
 simp only
 rw [twoAt_eq, twoAt_eq, m1, m2, if_pos hjh, if_neg (by omega), hx, m3, show 2 * h * k + j + h = 2 * h * k + h + j by omega, show 2 * h * k + h + j - h = 2 * h * k + j by omega, show h + j - h = j by omega]
 exact ⟨rfl, rfl⟩
theorem pair_ex (n h u i : Nat) (hn : n = 2 * h * u) (h1 : 1 ≤ h) (hi : i < n) : ∃ q, q < h * u ∧ (i = (pairAt h u q).a ∨ i = (pairAt h u q).b) := by
 have hd : 0 < 2 * h := by omega
 have e := Nat.div_add_mod i (2 * h)
 have hlt := Nat.mod_lt i hd
 have hq : i / (2 * h) < u := by
  rw [Nat.div_lt_iff_lt_mul hd, Nat.mul_comm u, ← hn]
  exact hi
 generalize i / (2 * h) = k at *
 generalize i % (2 * h) = r at *
 have h2 : h * (k + 1) ≤ h * u := Nat.mul_le_mul_left _ hq
 rw [Nat.mul_succ] at h2
 by_cases hr : r < h
 ·refine ⟨h * k + r, by omega, .inl ?_⟩
  rw [pairAt_in h u k r h1 hr]
  exact e.symm
 ·refine ⟨h * k + (r - h), by omega, .inr ?_⟩
  rw [pairAt_in h u k (r - h) h1 (by omega)]
  simp only
  omega
structure KB (B : Nat) (V W : World) : Prop where
 size : V.heap.size ≤ W.heap.size
 same : ∀ k, k < V.heap.size → k ≠ B → W.heap[k]? = V.heap[k]?
theorem KB.refl (B : Nat) (V : World) : KB B V V := ⟨Nat.le_refl _, fun _ _ _ => rfl⟩
theorem KB.gr {B : Nat} {U V W : World} (h : KB B U V) (g : Gr V W) : KB B U W := ⟨Nat.le_trans h.size g.size, fun k hk hb => (g.block (Nat.lt_of_lt_of_le hk h.size)).trans (h.same k hk hb)⟩
theorem KB.set {B : Nat} {U V : World} (h : KB B U V) (j : Nat) (v : Value) : KB B U (V.setCell ⟨B, j, none⟩ v) := ⟨Nat.le_trans h.size (KeepsWalks.setCell V _ v).size, fun k hk hb => (Below.heap_setCell _ _ _ k hb).trans (h.same k hk hb)⟩
theorem KB.drew {B : Nat} {U V : World} (h : KB B U V) : KB B U V.drew := ⟨h.size, h.same⟩
theorem KB.cell {B : Nat} {V W : World} (h : KB B V W) {p : Addr} (hp : p.block < V.heap.size) (hb : p.block ≠ B) : W.cell? p = V.cell? p := by
 unfold World.cell?
 rw [h.same _ hp hb]
theorem KB.cellsAt {B : Nat} {V W : World} (h : KB B V W) {b : Nat} {t : TypeId} {c : Array Value} (hc : CellsAt V b t c) (hb : b ≠ B) : CellsAt W b t c := (h.same b hc.lt hb).trans hc
theorem KB.others {B : Nat} {V W : World} (h : KB B V W) (hB : ∀ o, V.heap[B]? = some o → o.isCells = true) : KeepsOthers V W :=
 ⟨h.size, fun k o hk ho => (h.same k (Array.getElem?_eq_some_iff.1 hk).1 (fun e => by subst e; rw [hB o hk] at ho; cases ho)).trans hk⟩
theorem cellsAt_own {β : Type} (B : Nat) (t : TypeId) (p : β → Array Value → Prop) : Own (fun s W => ∃ c, CellsAt W B t c ∧ p s c) := by
 rintro s X Y row ⟨c, hc, hp⟩ hg hrow
 refine ⟨c, hc.grown hg (fun e' => ?_), hp⟩
 obtain ⟨o, ho, hcc⟩ := hrow B e'.symm
 rw [show X.heap[B]? = _ from hc] at ho
 cases ho
 cases hcc
set_option maxRecDepth 100000 in set_option maxHeartbeats 4000000 in
theorem tPass_ok (px pw : Option Addr) (cx cw : Nat) (xs ws : List Gi) (n h u bits s : Nat) (mo : Int) (inv : Bool) (hn : xs.length = n) (hm : ws.length = n) (hu : n = 2 * h * u) (h1 : 1 ≤ h) (hn0 : 1 ≤ n) (hn64 : n ≤ 64)
 (hb : bits ≤ 29) (hs : s ≤ 3) (m0 : 0 ≤ mo) (m1 : mo ≤ 2) (hx : allIn 2147483648 xs = true) (hw : allIn (2 ^ bits) ws = true)
 (HE : Hid (∀ W, CxsAt W (.slice px n cx) xs → CxsAt W (.slice pw n cw) ws → Calls Tryz.prog 182 #[.agg #[bits, s, mo], .slice px n cx, .slice pw n cw, h] W fun e' w' => e' = .returned (.int .i64 0) ∧ Gr W w'))
 (w : World) (hvx : CxsAt w (.slice px n cx) xs) (hvw : CxsAt w (.slice pw n cw) ws) :
 Calls Tryz.prog 154 #[.slice px n cx, .slice pw n cw, h, bits, s, mo, inv] w fun e w' => ∃ v', e = .returned (.tuple #[v', .int .i64 0]) ∧ CxsAt w' v' (twoL xs ws h bits s mo inv) ∧ Gr w w' := by
 have hu1 : 1 ≤ u := by
  rcases Nat.eq_zero_or_pos u with e | e
  ·rw [e] at hu; omega
  ·exact e
 have hL : twoL xs ws h bits s mo inv = (List.range n).map (twoAt xs ws h bits s mo inv) := by unfold twoL; rw [hn]
 rw [hL]
 obtain ⟨bx, ox, capx, hvv, _, hbx, hcx⟩ := hvx.at (by intro e; rw [e] at hn; simp at hn; omega)
 rw [hn] at hvv
 cases hvv
 obtain ⟨bw, ow, capw, hvv, _, hbw, hcw⟩ := hvw.at (by intro e; rw [e] at hm; simp at hm; omega)
 rw [hm] at hvv
 cases hvv
 have HCX := kh fun j (hj : j < n) => hcx j (xs.getD j ⟨0, 0⟩) (by rw [List.getD_eq_getElem?_getD, List.getElem?_eq_getElem (by omega)]; rfl)
 have HCW := kh fun j (hj : j < n) => hcw j (ws.getD j ⟨0, 0⟩) (by rw [List.getD_eq_getElem?_getD, List.getElem?_eq_getElem (by omega)]; rfl)
 have hbb : (2 : Int) ^ bits ≤ 2147483648 := pow_le31 _ (by omega)
 have HXB := kh fun j (hj : j < n) => (allIn_iff _ _).1 hx (xs.getD j ⟨0, 0⟩) (by rw [List.getD_eq_getElem?_getD, List.getElem?_eq_getElem (by omega)]; exact List.getElem_mem _)
 have HWB := kh fun j (hj : j < n) => (allIn_iff _ _).1 hw (ws.getD j ⟨0, 0⟩) (by rw [List.getD_eq_getElem?_getD, List.getElem?_eq_getElem (by omega)]; exact List.getElem_mem _)
 have HRB := kh fun k (hk : k < n) => rootOf_bd ws inv k (2 ^ bits) (by omega) hw
 have HAK := kh fun k (hk : k < n) => tAsked_c (ws.getD k ⟨0, 0⟩) inv (2 ^ bits) hbb (HWB.out k hk)
 have HPR := kh fun a b w ha hb' hw' => tPair_c a b w bits s mo hb hs m0 m1 ha hb' hw'
 have HAT := kh fun q hq => And.intro (pair_at n h u q hu h1 hq).1 (And.intro (pair_at n h u q hu h1 hq).2.1 (And.intro (pair_at n h u q hu h1 hq).2.2.1 ((pair_at n h u q hu h1 hq).2.2.2 xs ws bits s mo inv hn)))
 have HEX := kh fun i hi => pair_ex n h u i hu h1 hi
 have HST := kh fun Bn Bh W (bn : Boxed W Bn 3 (.int .i64 n)) (bh : Boxed W Bh 3 (.int .i64 h)) => pairs_stops 4 (by omega) Bn Bh n h u hu h1 hu1 hn64 W bn bh
 have hmk := run_make_cx n (by omega)
 have HP := kh (pairs_c n h)
 clear hn hm hu hx hw hL hb hs m0 m1 hu1 hcx hcw hbb
 generalize twoAt xs ws h bits s mo inv = T at *
 refine (callsIn_wide (n := 5)).1 ?_
 refine callsIn_of_wp_marks Tryz.func154 rfl trivial ?_ rfl
 simp only [Tryz.ntmps154, List.size_toArray, List.length_cons, List.length_nil, Nat.reduceAdd, Nat.reduceSub, Array.replicate_succ, Array.replicate_zero, List.push_toArray, List.append_toArray, List.nil_append, List.cons_append]
 have g0 : Gr w ((((w.alloc (.cells #[.slice (some ⟨bx, ox, none⟩) n cx] 25)).alloc (.cells #[.slice (some ⟨bw, ow, none⟩) n cw] 25)).alloc (.cells #[inv] 4)).alloc (.cells #[bits, s, mo] 201)) := ((((Gr.refl w).alloc _ _).alloc _ _).alloc _ _).alloc _ _
 have VX := kh (hvx.gr g0)
 have VW := kh (hvw.gr g0)
 clear hvx hvw
 gi_wp2_with fail
 refine (callsIn_wide.2 (HE.out _ VX.out VW.out)).mono ?_
 rintro e u1 ⟨rfl, g1⟩
 have bX := (((Boxed.new w 25 (.slice (some ⟨bx, ox, none⟩) n cx)).alloc (.cells #[.slice (some ⟨bw, ow, none⟩) n cw] 25)).alloc (.cells #[inv] 4)).alloc (.cells #[bits, s, mo] 201)
 have bW := ((Boxed.new (w.alloc (.cells #[.slice (some ⟨bx, ox, none⟩) n cx] 25)) 25 (.slice (some ⟨bw, ow, none⟩) n cw)).alloc (.cells #[inv] 4)).alloc (.cells #[bits, s, mo] 201)
 have bI := (Boxed.new ((w.alloc (.cells #[.slice (some ⟨bx, ox, none⟩) n cx] 25)).alloc (.cells #[.slice (some ⟨bw, ow, none⟩) n cw] 25)) 4 (.bool inv)).alloc (.cells #[bits, s, mo] 201)
 have bS := CellsAt.new (((w.alloc (.cells #[.slice (some ⟨bx, ox, none⟩) n cx] 25)).alloc (.cells #[.slice (some ⟨bw, ow, none⟩) n cw] 25)).alloc (.cells #[inv] 4)) 201 #[bits, s, mo]
 simp only [World.size_alloc] at bW bI bS
 replace bX : Boxed u1 w.heap.size 25 (.slice (some ⟨bx, ox, none⟩) n cx) := (g1.block bX.lt).trans bX
 replace bW : Boxed u1 (w.heap.size + 1) 25 (.slice (some ⟨bw, ow, none⟩) n cw) := (g1.block bW.lt).trans bW
 replace bI : Boxed u1 (w.heap.size + 1 + 1) 4 (.bool inv) := (g1.block bI.lt).trans bI
 replace bS : CellsAt u1 (w.heap.size + 1 + 1 + 1) 201 #[bits, s, mo] := (g1.block bS.lt).trans bS
 have gu1 := g0.trans g1
 have cX := bX.cell
 have lX := bX.lt
 gi_wp2_with (gi_at_call 183; refine (callsIn_wide.2 (HP.out _)).mono ?_; rintro e w2 ⟨rfl, rfl⟩)
 have rY := (((CellsAt.new u1 50 (madeCells #[.int .i64 0, .int .i64 0] (n * 2))).alloc (.cells #[.slice (some ⟨u1.heap.size, 0, none⟩) n n] 25)).alloc (.cells #[n] 3)).alloc (.cells #[h] 3)
 have rV := ((Boxed.new (u1.alloc (.cells (madeCells #[.int .i64 0, .int .i64 0] (n * 2)) 50)) 25 (.slice (some ⟨u1.heap.size, 0, none⟩) n n)).alloc (.cells #[n] 3)).alloc (.cells #[h] 3)
 have rN := (Boxed.new ((u1.alloc (.cells (madeCells #[.int .i64 0, .int .i64 0] (n * 2)) 50)).alloc (.cells #[.slice (some ⟨u1.heap.size, 0, none⟩) n n] 25)) 3 (.int .i64 n)).alloc (.cells #[h] 3)
 have rH := Boxed.new (((u1.alloc (.cells (madeCells #[.int .i64 0, .int .i64 0] (n * 2)) 50)).alloc (.cells #[.slice (some ⟨u1.heap.size, 0, none⟩) n n] 25)).alloc (.cells #[n] 3)) 3 (.int .i64 h)
 simp only [World.size_alloc] at rV rN rH
 have hMs := size_madeCells #[.int .i64 0, .int .i64 0] (n * 2)
 generalize madeCells #[.int .i64 0, .int .i64 0] (n * 2) = mc at *
 have gR : Gr u1 ((((u1.alloc (.cells mc 50)).alloc (.cells #[.slice (some ⟨u1.heap.size, 0, none⟩) n n] 25)).alloc (.cells #[n] 3)).alloc (.cells #[h] 3)) := ((((Gr.refl u1).alloc _ _).alloc _ _).alloc _ _).alloc _ _
 have zR : u1.heap.size + 4 ≤ (((((u1.alloc (.cells mc 50)).alloc (.cells #[.slice (some ⟨u1.heap.size, 0, none⟩) n n] 25)).alloc (.cells #[n] 3)).alloc (.cells #[h] 3))).heap.size := by simp
 obtain ⟨uR, hUR⟩ : ∃ U, ((((u1.alloc (.cells mc 50)).alloc (.cells #[.slice (some ⟨u1.heap.size, 0, none⟩) n n] 25)).alloc (.cells #[n] 3)).alloc (.cells #[h] 3)) = U := ⟨_, rfl⟩
 rw [hUR] at rY rV rN rH gR zR ⊢
 clear hUR cX hmk
 refine wpIn_rangeFunc_ownH rfl (by omega) (gf := 203) (lb := #[.pointer (some ⟨u1.heap.size + 1 + 1, 0, none⟩), .pointer (some ⟨u1.heap.size + 1 + 1 + 1, 0, none⟩)]) rfl trivial (enters_of Tryz.func203 (by kernel_rfl) rfl)
  (HST.out _ _ uR rN rH) (fun h k => ⟨k.1.trans h.1, k.2.trans h.2⟩)
  (fun W l o o' hl h _ _ => ⟨World.putObj_heap_other (fun e => by omega), World.putObj_heap_other (fun e => by omega)⟩) (Below.refl _ _) (fun _ => rfl)
  (fun pre W => ((∃ c, CellsAt W u1.heap.size 50 c ∧ (c.size = n * 2 ∧ ∀ i, (∃ q ∈ pre, i = (pairAt h u q.1).a ∨ i = (pairAt h u q.1).b) → c[i * 2]? = some (.int .i64 (T i).re) ∧ c[i * 2 + 1]? = some (.int .i64 (T i).im))) ∧ Boxed W (u1.heap.size + 1) 25 (.slice (some ⟨u1.heap.size, 0, none⟩) n n)) ∧ (Below u1.heap.size u1 W ∧ u1.heap.size + 4 ≤ W.heap.size))
  (fun _ _ _ => False)
  (OwnFrom.and (OwnFrom.and (Own.from (cellsAt_own _ _ _) _) (Own.from (boxed_own _ _ _) _)) (OwnFrom.and (ownFrom_below (Nat.le_refl _) (by omega)) (fun _ _ _ _ hs hg _ => Nat.le_trans hs hg.size)))
  (fun _ _ _ _ _ hs _ _ => hs)
  ⟨⟨⟨_, rY, hMs, fun i hi => by obtain ⟨q, hq, _⟩ := hi; cases hq⟩, rV⟩, gR.out, zR⟩
  (fun x a' W => ∃ Bp, u1.heap.size + 1 < Bp ∧ CellsAt W Bp 207 #[.int .i64 ((pairAt h u x.1).a : Int), .int .i64 ((pairAt h u x.1).b : Int), .int .i64 ((pairAt h u x.1).r : Int)] ∧ a' = { tmps := #[.slice (some ⟨bx, ox, none⟩) n cx, .slice (some ⟨bw, ow, none⟩) n cw, .int .i64 h, .int .i64 bits, .int .i64 s, .int .i64 mo, .bool inv, .pointer (some ⟨w.heap.size, 0, none⟩), .pointer (some ⟨(w.heap.size + 1), 0, none⟩), undef, undef, undef, undef, .pointer (some ⟨(w.heap.size + 1 + 1), 0, none⟩), .slice none 0 0, .int .i64 0, .pointer (some ⟨(w.heap.size + 1 + 1 + 1), 0, none⟩), .int .i64 0, .pointer (some ⟨u1.heap.size + 1, 0, none⟩), .pointer (some ⟨Bp, 0, none⟩), .int .i64 bits, .int .i64 s, .int .i64 mo, .agg #[bits, s, mo], .agg #[bits, s, mo], .slice (some ⟨bx, ox, none⟩) n cx, .slice (some ⟨bw, ow, none⟩) n cw, .int .i64 h, .int .i64 0, .int .i64 0, .bool false, undef, .slice (some ⟨bx, ox, none⟩) n cx, .int .i64 n, .slice (some ⟨u1.heap.size, 0, none⟩) n n, .slice (some ⟨bx, ox, none⟩) n cx, .int .i64 n, .int .i64 h, .func (.func 203) #[] #[.pointer (some ⟨u1.heap.size + 1 + 1, 0, none⟩), .pointer (some ⟨u1.heap.size + 1 + 1 + 1, 0, none⟩)], .agg #[.int .i64 ((pairAt h u x.1).a : Int), .int .i64 ((pairAt h u x.1).b : Int), .int .i64 ((pairAt h u x.1).r : Int)], undef, undef, undef, undef, undef, undef, undef, undef, undef, undef, undef, undef, undef, undef, undef, undef, undef, undef, undef, undef, undef, undef, undef, undef, undef, undef, undef, undef, undef, undef, undef], defers := [] })
  (fun x a' _ X Y row hs hg hr => by obtain ⟨Bp, e1, e2, e3⟩ := hs; exact ⟨Bp, e1, e2.grown hg (fun e' => by obtain ⟨_, o, ho, hcc⟩ := hr Bp e'.symm; rw [show X.heap[Bp]? = _ from e2] at ho; cases ho; cases hcc), e3⟩)
  ?assign ?body ?done ?stop
 case assign =>
  rintro l pre x W K ⟨⟨⟨c, hC, hs, hWR⟩, bV⟩, hB, hz⟩ hK;simp only [encQ, plEnc]
  gi_wp2_with fail
  exact hK _ _ ((KeepsOthers.alloc _ _).from _) ⟨Below.heap_alloc _ _ _ (by omega), Below.heap_alloc _ _ _ (by omega)⟩ ⟨⟨⟨c, hC.alloc _, hs, hWR⟩, bV.alloc _⟩, hB.alloc hB.size _, by simp; omega⟩ ⟨W.heap.size, by omega, CellsAt.new W _ _, rfl⟩
 case body =>
  rintro l pre x a' V hl ⟨r, hr⟩ ⟨⟨⟨c, hC, hs, hWR⟩, bV⟩, hB, hz⟩ ⟨Bp, hBp, hP, rfl⟩ hlt;obtain ⟨n1, n2, n3, hTa, hTb⟩ := HAT.out x.1 x.2;have hCS := kh (And.intro hs hWR);clear hs hWR hlt hr hl;generalize hpp : pairAt h u x.1 = pp at *;obtain ⟨fa, fb, fr⟩ := pp
  simp only at n1 n2 n3 hTa hTb hP ⊢
  have d0 := HCX.out fa n1;have d1 := HCX.out fb n2;have d2 := HCW.out fr n3;have HA1 := kh (HAK.out fr n3);have HP1 := kh (HPR.out (xs.getD fa ⟨0, 0⟩) (xs.getD fb ⟨0, 0⟩) (rootOf ws inv fr) (HXB.out fa n1) (HXB.out fb n2) (HRB.out fr n3));rw [← hTa, ← hTb] at HP1;unfold rootOf at HP1;have HT := kh (And.intro (rfl : T fa = T fa) (rfl : T fb = T fb));clear hTa hTb HCX HCW HXB HWB HRB HAK HPR HAT;generalize hU : T fa = U at HP1;generalize hD : T fb = D at HP1;generalize (if inv = true then (ws.getD fr ⟨0, 0⟩).conj else ws.getD fr ⟨0, 0⟩) = R at *;generalize xs.getD fa ⟨0, 0⟩ = A at *;generalize xs.getD fb ⟨0, 0⟩ = Bb at *;generalize ws.getD fr ⟨0, 0⟩ = G at *;have HUD := kh (And.intro hU hD);clear hU hD HT;obtain ⟨ax, ay⟩ := A;obtain ⟨b0, b1⟩ := Bb;obtain ⟨c0, c1⟩ := G;obtain ⟨r0, r1⟩ := R;obtain ⟨p0, p1⟩ := U;obtain ⟨q0, q1⟩ := D
  simp only at d0 d1 d2 HA1 HP1
  have gV : Gr u1 V := ⟨hB⟩
  have gwV := gu1.trans gV
  have lw : w.heap.size + 1 + 1 + 1 < u1.heap.size := bS.lt
  have KS : ∀ W, KB u1.heap.size V W → (W.cell? ⟨u1.heap.size + 1, 0, none⟩ = some (.slice (some ⟨u1.heap.size, 0, none⟩) n n) ∧ W.cell? ⟨Bp, 0, none⟩ = some (.int .i64 (fa : Int)) ∧ W.cell? ⟨Bp, 1, none⟩ = some (.int .i64 (fb : Int)) ∧ W.cell? ⟨Bp, 2, none⟩ = some (.int .i64 (fr : Int)) ∧ W.cell? ⟨w.heap.size + 1 + 1 + 1, 0, none⟩ = some (.int .i64 bits) ∧ W.cell? ⟨w.heap.size + 1 + 1 + 1, 1, none⟩ = some (.int .i64 s) ∧ W.cell? ⟨w.heap.size + 1 + 1 + 1, 2, none⟩ = some (.int .i64 mo) ∧ W.cell? ⟨w.heap.size, 0, none⟩ = some (.slice (some ⟨bx, ox, none⟩) n cx) ∧ W.cell? ⟨w.heap.size + 1, 0, none⟩ = some (.slice (some ⟨bw, ow, none⟩) n cw) ∧ W.cell? ⟨w.heap.size + 1 + 1, 0, none⟩ = some (.bool inv) ∧ W.cell? ⟨bx, ox + fa * 2, none⟩ = some (.int .i64 ax) ∧ W.cell? ⟨bx, ox + fa * 2 + 1, none⟩ = some (.int .i64 ay) ∧ W.cell? ⟨bx, ox + fb * 2, none⟩ = some (.int .i64 b0) ∧ W.cell? ⟨bx, ox + fb * 2 + 1, none⟩ = some (.int .i64 b1) ∧ W.cell? ⟨bw, ow + fr * 2, none⟩ = some (.int .i64 c0) ∧ W.cell? ⟨bw, ow + fr * 2 + 1, none⟩ = some (.int .i64 c1) ∧ bx < W.heap.size ∧ bw < W.heap.size ∧ KB u1.heap.size V W) := fun W hG =>
   ⟨(hG.cell bV.lt (by simp)).trans bV.cell, (hG.cellsAt hP (by omega)).cell 0, (hG.cellsAt hP (by omega)).cell 1, (hG.cellsAt hP (by omega)).cell 2,
    (hG.cellsAt ((gV.block bS.lt).trans bS) (by omega)).cell 0, (hG.cellsAt ((gV.block bS.lt).trans bS) (by omega)).cell 1, (hG.cellsAt ((gV.block bS.lt).trans bS) (by omega)).cell 2,
    (hG.cellsAt ((gV.block bX.lt).trans bX) (by omega)).cell 0, (hG.cellsAt ((gV.block bW.lt).trans bW) (by omega)).cell 0, (hG.cellsAt ((gV.block bI.lt).trans bI) (by omega)).cell 0,
    (hG.cell (p := ⟨bx, _, none⟩) (Nat.lt_of_lt_of_le hbx gwV.size) (by simp; omega)).trans ((gwV.cell (p := ⟨bx, _, none⟩) hbx).trans d0.1), (hG.cell (p := ⟨bx, _, none⟩) (Nat.lt_of_lt_of_le hbx gwV.size) (by simp; omega)).trans ((gwV.cell (p := ⟨bx, _, none⟩) hbx).trans d0.2),
    (hG.cell (p := ⟨bx, _, none⟩) (Nat.lt_of_lt_of_le hbx gwV.size) (by simp; omega)).trans ((gwV.cell (p := ⟨bx, _, none⟩) hbx).trans d1.1), (hG.cell (p := ⟨bx, _, none⟩) (Nat.lt_of_lt_of_le hbx gwV.size) (by simp; omega)).trans ((gwV.cell (p := ⟨bx, _, none⟩) hbx).trans d1.2),
    (hG.cell (p := ⟨bw, _, none⟩) (Nat.lt_of_lt_of_le hbw gwV.size) (by simp; omega)).trans ((gwV.cell (p := ⟨bw, _, none⟩) hbw).trans d2.1), (hG.cell (p := ⟨bw, _, none⟩) (Nat.lt_of_lt_of_le hbw gwV.size) (by simp; omega)).trans ((gwV.cell (p := ⟨bw, _, none⟩) hbw).trans d2.2),
    Nat.lt_of_lt_of_le hbx (Nat.le_trans gwV.size hG.size), Nat.lt_of_lt_of_le hbw (Nat.le_trans gwV.size hG.size), hG⟩
  clear d0 d1 d2
  have n1' : (fa : Int) < n := by omega
  have n2' : (fb : Int) < n := by omega
  have n3' : (fr : Int) < n := by omega
  gi_wp2_with fail
  refine wpIn_region_held_round (S := fun W => W.cell? ⟨u1.heap.size + 1, 0, none⟩ = some (.slice (some ⟨u1.heap.size, 0, none⟩) n n) ∧ W.cell? ⟨Bp, 0, none⟩ = some (.int .i64 (fa : Int)) ∧ W.cell? ⟨Bp, 1, none⟩ = some (.int .i64 (fb : Int)) ∧ W.cell? ⟨Bp, 2, none⟩ = some (.int .i64 (fr : Int)) ∧ W.cell? ⟨w.heap.size + 1 + 1 + 1, 0, none⟩ = some (.int .i64 bits) ∧ W.cell? ⟨w.heap.size + 1 + 1 + 1, 1, none⟩ = some (.int .i64 s) ∧ W.cell? ⟨w.heap.size + 1 + 1 + 1, 2, none⟩ = some (.int .i64 mo) ∧ W.cell? ⟨w.heap.size, 0, none⟩ = some (.slice (some ⟨bx, ox, none⟩) n cx) ∧ W.cell? ⟨w.heap.size + 1, 0, none⟩ = some (.slice (some ⟨bw, ow, none⟩) n cw) ∧ W.cell? ⟨w.heap.size + 1 + 1, 0, none⟩ = some (.bool inv) ∧ W.cell? ⟨bx, ox + fa * 2, none⟩ = some (.int .i64 ax) ∧ W.cell? ⟨bx, ox + fa * 2 + 1, none⟩ = some (.int .i64 ay) ∧ W.cell? ⟨bx, ox + fb * 2, none⟩ = some (.int .i64 b0) ∧ W.cell? ⟨bx, ox + fb * 2 + 1, none⟩ = some (.int .i64 b1) ∧ W.cell? ⟨bw, ow + fr * 2, none⟩ = some (.int .i64 c0) ∧ W.cell? ⟨bw, ow + fr * 2 + 1, none⟩ = some (.int .i64 c1) ∧ bx < W.heap.size ∧ bw < W.heap.size ∧ KB u1.heap.size V W) rfl (by kernel_rfl) (fun h => by obtain ⟨_, _, h⟩ := h; exact h) (KS _ (KB.drew (KB.refl _ _))) (fun hS => ?_);refine hT 0 ?_;refine hT 1 ?_;refine hT 2 ?_;refine hT 3 ?_;refine hT 4 ?_;refine hT 5 ?_;refine hT 6 ?_;refine hT 7 ?_;refine hT 8 ?_;refine hT 9 ?_;refine hT 10 ?_;refine hT 11 ?_;refine hT 12 ?_;refine hT 13 ?_;refine hT 14 ?_;refine hT 15 ?_;refine hT 16 ?_;refine hT 17 ?_
  refine hT 18 ?_;refine hT 19 ?_;refine hT 20 ?_;refine hT 21 ?_;refine hT 22 ?_;refine hR 23 fun K hK => ?_
  go_simp
  go_at_call 185
  refine (HA1.out _).mono ?_;rintro e w3 ⟨rfl, g3⟩;have k3 := (KB.drew (KB.refl u1.heap.size V)).gr g3;refine hK.out _ _ ?_ (fun hHeld => ?_)
  ·(exact KS _ k3)
  clear hK K
  try simp only [Act.put, putS]
  refine hR 24 fun K hK => ?_
  go_simp
  go_at_call 184
  refine (HP1.out _).mono ?_;rintro e w4 ⟨rfl, g4⟩;have k4 := k3.gr g4;refine hK.out _ _ ?_ (fun hHeld => ?_)
  ·(exact KS _ k4)
  clear hK K
  try simp only [Act.put, putS]
  refine hT 25 ?_;refine hT 26 ?_;refine hT 27 ?_;refine hT 28 ?_;have hC4 := ((show CellsAt V.drew _ _ c from hC).gr g3).gr g4;have hl4 := hC4.lt;have i0 := hC4.cell (fa * 2);have i1 := hC4.cell (fa * 2 + 1);rw [Array.getElem?_eq_getElem (show fa * 2 < c.size by rw [hCS.out.1]; omega)] at i0;rw [Array.getElem?_eq_getElem (show fa * 2 + 1 < c.size by rw [hCS.out.1]; omega)] at i1;have j0 := hC4.frozen (fa * 2);have j1 := hC4.frozen (fa * 2 + 1);refine hR 29 fun K hK => ?_
  go_simp
  have hC5 := (hC4.set (fa * 2) (.int .i64 p0)).set (fa * 2 + 1) (.int .i64 p1);have k5 := (k4.set (fa * 2) (.int .i64 p0)).set (fa * 2 + 1) (.int .i64 p1);refine hK.out _ _ ?_ (fun hHeld => ?_)
  ·(exact KS _ k5)
  clear hK K
  try simp only [Act.put, putS]
  refine hT 30 ?_;have hl5 := hC5.lt
  have hs5 : ((c.setIfInBounds (fa * 2) (.int .i64 p0)).setIfInBounds (fa * 2 + 1) (.int .i64 p1)).size = n * 2 := by simpa using hCS.out.1
  have i2 := hC5.cell (fb * 2);have i3 := hC5.cell (fb * 2 + 1);rw [Array.getElem?_eq_getElem (show fb * 2 < _ by rw [hs5]; omega)] at i2;rw [Array.getElem?_eq_getElem (show fb * 2 + 1 < _ by rw [hs5]; omega)] at i3;have j2 := hC5.frozen (fb * 2);have j3 := hC5.frozen (fb * 2 + 1);refine hR 31 fun K hK => ?_
  go_simp
  have hC6 := (hC5.set (fb * 2) (.int .i64 q0)).set (fb * 2 + 1) (.int .i64 q1);have k6 := (k5.set (fb * 2) (.int .i64 q0)).set (fb * 2 + 1) (.int .i64 q1);refine hK.out _ _ ?_ (fun hHeld => ?_)
  ·(exact KS _ k6)
  clear hK K
  try simp only [Act.put, putS]
  refine wpAnyH_done (by kernel_rfl) ?_ _
  have hVB : ∀ o, V.heap[u1.heap.size]? = some o → o.isCells = true := fun o ho => by rw [show V.heap[u1.heap.size]? = _ from hC] at ho; cases ho; rfl
  refine ⟨(k6.others hVB).from _, ⟨k6.same _ (by omega) (by omega), k6.same _ (by omega) (by omega)⟩, ⟨⟨_, hC6, by simpa using hs5, fun i hi => ?_⟩, (k6.same _ bV.lt (by omega)).trans bV⟩, ?_, Nat.le_trans hz k6.size⟩
  ·obtain ⟨hU, hD⟩ := hCS.out
   obtain ⟨hTa, hTb⟩ := HUD.out
   by_cases e1 : i = fb
   ·subst e1
    rw [hTb]
    constructor
    ·rw [Array.getElem?_setIfInBounds, if_neg (by omega), Array.getElem?_setIfInBounds, if_pos rfl, if_pos (by rw [hs5]; omega)]
    ·rw [Array.getElem?_setIfInBounds, if_pos rfl, if_pos (by simp only [Array.size_setIfInBounds]; omega)]
   ·by_cases e2 : i = fa
    ·subst e2
     rw [hTa]
     constructor
     ·rw [Array.getElem?_setIfInBounds, if_neg (by omega), Array.getElem?_setIfInBounds, if_neg (by omega), Array.getElem?_setIfInBounds, if_neg (by omega), Array.getElem?_setIfInBounds, if_pos rfl, if_pos (by omega)]
     ·rw [Array.getElem?_setIfInBounds, if_neg (by omega), Array.getElem?_setIfInBounds, if_neg (by omega), Array.getElem?_setIfInBounds, if_pos rfl, if_pos (by simp only [Array.size_setIfInBounds]; omega)]
    ·obtain ⟨q, hq, hqi⟩ := hi
     have hq2 : q ∈ pre := by
      rcases List.mem_append.1 hq with g | g
      ·exact g
      ·rw [List.mem_singleton] at g
       rw [g, hpp] at hqi
       rcases hqi with g | g
       ·exact absurd g e2
       ·exact absurd g e1
     have hc := hD i ⟨q, hq2, hqi⟩
     constructor
     ·rw [Array.getElem?_setIfInBounds, if_neg (by omega), Array.getElem?_setIfInBounds, if_neg (by omega), Array.getElem?_setIfInBounds, if_neg (by omega), Array.getElem?_setIfInBounds, if_neg (by omega)]
      exact hc.1
     ·rw [Array.getElem?_setIfInBounds, if_neg (by omega), Array.getElem?_setIfInBounds, if_neg (by omega), Array.getElem?_setIfInBounds, if_neg (by omega), Array.getElem?_setIfInBounds, if_neg (by omega)]
      exact hc.2
  ·exact ((((((gV.drew.trans g3).trans g4).setCell (by simp) _).setCell (by simp) _).setCell (by simp) _).setCell (by simp) _).out
 case done =>
  rintro D ys W hD hS ⟨⟨⟨c, hC, hs, hWR⟩, bV⟩, hB, hz⟩ hK;have cV := bV.cell
  gi_wp2_with fail
  refine ⟨by simp, .inl ⟨_, _, rfl, run_takeDeferred hK, ?_⟩⟩
  have hDne : u1.heap.size ≠ D := by omega
  have hC2 : CellsAt (W.putObj D (.deferred none)) u1.heap.size 50 c := (World.putObj_heap_other hDne).trans hC
  refine ⟨_, results_tmp2 rfl _ _ _, .slice (some ⟨u1.heap.size, 0, none⟩) n n, rfl, ⟨some ⟨u1.heap.size, 0, none⟩, n, by simp, by simp, by unfold maxLen; omega, fun _ => ⟨u1.heap.size, 0, rfl, hC2.lt, fun j x hj => ?_⟩⟩, ?_⟩
  ·have hjn : j < n := by
    have := (List.getElem?_eq_some_iff.1 hj).1
    simpa using this
   rw [List.getElem?_map, List.getElem?_range hjn] at hj
   obtain rfl := Option.some.inj hj
   obtain ⟨q, hq, hqi⟩ := HEX.out j hjn;have hc := hWR j ⟨⟨q, hq⟩, by rw [show ys = _ from hS]; exact qL_all _ _ _ hq, hqi⟩;have c0 := hC2.cell (j * 2);have c1 := hC2.cell (j * 2 + 1);rw [hc.1] at c0;rw [hc.2] at c1;rw [Nat.zero_add]
   exact ⟨c0, c1⟩
  ·exact gu1.trans ⟨hB.trans (belowK_b (w := u1) (Nat.le_refl _) W D _ _ (by omega) hK rfl rfl)⟩
 case stop =>
  rintro D c pre W _ _ h _
  exact h.elim
end
section
open Go.ChangeShapes Go.WideShapes Go.ChangeAt Go.RowKit
set_option linter.unusedVariables false
set_option maxRecDepth 100000
set_option maxHeartbeats 16000000
theorem half_units (n k : Nat) (hL : ∃ L, IsLog (n : Int) L) (hk : 2 ^ k < n) : ∃ u, n = 2 * 2 ^ k * u := by
 obtain ⟨L, h0, h1, h2⟩ := hL
 have hn : n = 2 ^ L := by exact Int.ofNat.inj h2
 rw [hn] at hk
 have hkL : k < L := (Nat.pow_lt_pow_iff_right (by omega)).1 hk
 refine ⟨2 ^ (L - (k + 1)), ?_⟩
 rw [hn, show 2 * 2 ^ k = 2 ^ (k + 1) by rw [Nat.pow_succ]; omega, ← Nat.pow_add]
 congr 1
 omega
theorem log_bounds (n : Nat) (hL : ∃ L, IsLog (n : Int) L) : 4 ≤ n ∧ n ≤ 64 := by
 obtain ⟨L, hL⟩ := hL
 rcases isLog_cases hL with h | h | h | h | h <;> omega
theorem twoPass_yes (px pw : Option Addr) (cx cw : Nat) (xs ws : List Gi) (n k bits s : Nat) (mo : Int) (inv : Bool) (hn : xs.length = n) (hm : ws.length = n) (hL : ∃ L, IsLog (n : Int) L) (hk : 2 ^ k < n)
 (hS : SetsOk2 bits s mo) (hx : allIn 2147483648 xs = true) (hw : allIn (2 ^ bits) ws = true) (w : World) (hvx : CxsAt w (.slice px n cx) xs) (hvw : CxsAt w (.slice pw n cw) ws) :
 Calls Tryz.prog 154 #[.slice px n cx, .slice pw n cw, .int .i64 ((2 ^ k : Nat) : Int), bits, s, mo, inv] w fun e w' => ∃ v', e = .returned (.tuple #[v', .int .i64 0]) ∧ CxsAt w' v' (twoL xs ws (2 ^ k) bits s mo inv) ∧ Gr w w' := by
 obtain ⟨u, hu⟩ := half_units n k hL hk
 have hb := log_bounds n hL
 exact tPass_ok px pw cx cw xs ws n (2 ^ k) u bits s mo inv hn hm hu (Nat.one_le_two_pow) (by omega) hb.2 (by have := hS.1.2; omega) (by have := hS.2.1.2; omega) hS.2.2.1 hS.2.2.2 hx hw
  (kh fun W h1 h2 => tErr_c px pw cx cw xs ws n n _ true bits s mo 0 true true (by simp only [true_iff]; exact ⟨k, hk, rfl⟩) hx.symm (fun B hB _ => by rw [show B = bits by omega]; exact hw.symm) (.inr (.inr (.inr (.inr ⟨hL, rfl, rfl, hS, rfl, rfl, rfl⟩)))) W h1 h2) w hvx hvw
end
end Go.Proofs.YtdignnmpfkgkoaaGreat
