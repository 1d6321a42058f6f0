import Derived.Test.YtdignnmpfkgkoaaGreatRealBinsS34
namespace Go.Proofs.YtdignnmpfkgkoaaGreat
set_option maxHeartbeats 16000000
section
open Go.ChangeShapes Go.WideShapes Go.ChangeAt Go.RowKit
set_option linter.unusedVariables false
set_option maxRecDepth 100000
set_option linter.unusedSimpArgs false
set_option maxHeartbeats 16000000
structure QPl where
 g : Nat
 j : Nat
 q : Nat
def qpl (h i : Nat) : QPl := ⟨i - i % (4 * h), i % h, (i - (i - i % (4 * h))) / h⟩
theorem qpl_in (n h u i : Nat) (hn : n = 4 * h * u) (h1 : 1 ≤ h) (hi : i < n) :
 (qpl h i).g + 4 * h ≤ n ∧ (qpl h i).j < h ∧ (qpl h i).q < 4 ∧ (qpl h i).g ≤ i ∧ i - (qpl h i).g = i % (4 * h) ∧ i % (4 * h) < 4 * h ∧ 3 * ((qpl h i).j * u) < n := by
 have hr := Nat.mod_lt i (show 0 < 4 * h by omega)
 have hd := Nat.div_add_mod i (4 * h)
 have hj := Nat.mod_lt i (show 0 < h by omega)
 have hk : i / (4 * h) < u := by
  rw [Nat.div_lt_iff_lt_mul (by omega), Nat.mul_comm u, ← hn]
  exact hi
 have hu : 1 ≤ u := Nat.lt_of_le_of_lt (Nat.zero_le _) hk
 have h2 : 4 * h * (i / (4 * h) + 1) ≤ 4 * h * u := Nat.mul_le_mul_left _ hk
 rw [Nat.mul_succ, ← hn] at h2
 have hju : (i % h + 1) * u ≤ h * u := Nat.mul_le_mul_right _ hj
 rw [Nat.succ_mul] at hju
 have hhu : n = 4 * (h * u) := by rw [hn, Nat.mul_assoc]
 have hle := Nat.mod_le i (4 * h)
 unfold qpl
 simp only
 generalize 4 * h * (i / (4 * h)) = a at *
 generalize h * u = b at *
 generalize i % h * u = c at *
 generalize hrr : i % (4 * h) = r at *
 refine ⟨by omega, hj, ?_, by omega, by omega, hr, by omega⟩
 rw [Nat.div_lt_iff_lt_mul (by omega)]
 omega
theorem fourAt_at (xs ws : List Gi) (n h u bits s : Nat) (mo : Int) (inv : Bool) (hl : xs.length = n) (hn : n = 4 * h * u) (h1 : 1 ≤ h) (i : Nat) :
 fourAt xs ws h bits s mo inv i = quadOut bits s mo inv ((qpl h i).q : Nat) (xs.getD ((qpl h i).g + (qpl h i).j) ⟨0, 0⟩) (xs.getD ((qpl h i).g + (qpl h i).j + 2 * h) ⟨0, 0⟩) (xs.getD ((qpl h i).g + (qpl h i).j + h) ⟨0, 0⟩) (xs.getD ((qpl h i).g + (qpl h i).j + 3 * h) ⟨0, 0⟩)
  (rootOf ws inv ((qpl h i).j * u)) (rootOf ws inv (2 * (qpl h i).j * u)) (rootOf ws inv (3 * (qpl h i).j * u)) := by
 have hu2 : xs.length / (4 * h) = u := by rw [hl, hn]; exact Nat.mul_div_cancel_left _ (by omega)
 unfold fourAt qpl
 simp only [hu2]
 generalize i - i % (4 * h) = g
 generalize i % h = j
 rw [show g + 2 * h + j = g + j + 2 * h by omega, show g + h + j = g + j + h by omega, show g + 3 * h + j = g + j + 3 * h by omega]
theorem slice_nums (h d n g j : Nat) (hd : 4 * h = d) (hg : g + d ≤ n) (hj : j < h) (hn : n ≤ 64) :
 (g : Int) + (j : Int) = ((g + j : Nat) : Int) ∧ 3 * (h : Int) = ((3 * h : Nat) : Int) ∧ (g : Int) + ((3 * h : Nat) : Int) = ((g + 3 * h : Nat) : Int) ∧ ((g + 3 * h : Nat) : Int) + (j : Int) = ((g + 3 * h + j : Nat) : Int) ∧
 ((g + 3 * h + j : Nat) : Int) + 1 = ((g + 3 * h + j + 1 : Nat) : Int) ∧ g + j ≤ g + 3 * h + j + 1 ∧ g + 3 * h + j + 1 ≤ n ∧ g + j < n ∧ g + 3 * h + j + 1 - (g + j) = 3 * h + 1 ∧ (2 * h : Nat) < 3 * h + 1 ∧ h < 3 * h + 1 ∧ 3 * h < 3 * h + 1 ∧ g + j + 3 * h < n :=
 ⟨by omega, by omega, by omega, by omega, by omega, by omega, by omega, by omega, by omega, by omega, by omega, by omega, by omega⟩
theorem root_nums (h n u j : Nat) (hj : 3 * (j * u) < n) (h16 : 4 * h ≤ 64) (hjh : j < h) (hn : n ≤ 64) :
 IntKind.i64.wrap (2 * (h : Int)) = ((2 * h : Nat) : Int) ∧ IntKind.i64.wrap (3 * (h : Int)) = ((3 * h : Nat) : Int) ∧ IntKind.i64.wrap ((j : Int) * (u : Int)) = ((j * u : Nat) : Int) ∧
 IntKind.i64.wrap (2 * (j : Int)) = ((2 * j : Nat) : Int) ∧ IntKind.i64.wrap (((2 * j : Nat) : Int) * (u : Int)) = ((2 * j * u : Nat) : Int) ∧ IntKind.i64.wrap (3 * (j : Int)) = ((3 * j : Nat) : Int) ∧ IntKind.i64.wrap (((3 * j : Nat) : Int) * (u : Int)) = ((3 * j * u : Nat) : Int) ∧
 j * u < n ∧ 2 * j * u < n ∧ 3 * j * u < n := by
 have e2 : 2 * j * u = 2 * (j * u) := Nat.mul_assoc _ _ _
 have e3 : 3 * j * u = 3 * (j * u) := Nat.mul_assoc _ _ _
 refine ⟨imul 2 h (by omega), imul 3 h (by omega), imul j u (by omega), imul 2 j (by omega), imul (2 * j) u (by omega), imul 3 j (by omega), imul (3 * j) u (by omega), by omega, by omega, by omega⟩
theorem qpl_walk (n h u i : Nat) (hn : n = 4 * h * u) (h1 : 1 ≤ h) (hi : i < n) (hn64 : n ≤ 64) :
 (i : Int).tmod ((4 * h : Nat) : Int) = ((i % (4 * h) : Nat) : Int) ∧ (i : Int).tmod (h : Int) = (((qpl h i).j : Nat) : Int) ∧ (((i % (4 * h) : Nat) : Int)).tdiv (h : Int) = (((qpl h i).q : Nat) : Int) ∧
 (i : Int) % ((4 * h : Nat) : Int) = ((i % (4 * h) : Nat) : Int) ∧ (i : Int) % (h : Int) = (((qpl h i).j : Nat) : Int) ∧ (((i % (4 * h) : Nat) : Int)) / (h : Int) = (((qpl h i).q : Nat) : Int) ∧
 (i : Int) - ((i % (4 * h) : Nat) : Int) = (((qpl h i).g : Nat) : Int) ∧ (i : Int) - (((qpl h i).g : Nat) : Int) = ((i % (4 * h) : Nat) : Int) := by
 obtain ⟨a1, a2, a3, a4, a5, a6, a7⟩ := qpl_in n h u i hn h1 hi
 have hq : (qpl h i).q = i % (4 * h) / h := by
  unfold qpl at a5 ⊢
  simp only at a5 ⊢
  rw [a5]
 have hj : (qpl h i).j = i % h := rfl
 refine ⟨?_, ?_, ?_, ?_, ?_, ?_, by omega, by omega⟩
 ·rw [Int.tmod_eq_emod_of_nonneg (by omega)]; simp
 ·rw [Int.tmod_eq_emod_of_nonneg (by omega), hj]; simp
 ·rw [Int.tdiv_eq_ediv_of_nonneg (by omega), hq]; simp
 ·simp
 ·rw [hj]; simp
 ·rw [hq]; simp
set_option maxHeartbeats 8000000 in set_option maxRecDepth 100000 in
theorem pass11_c (px pw : Option Addr) (cx cw : Nat) (xs ws : List Gi) (n h u bits s : Nat) (mo : Int) (inv : Bool) (hl : xs.length = n) (hm : ws.length = n) (hu : n = 4 * h * u) (h1 : 1 ≤ h) (hu1 : 1 ≤ u) (hn64 : n ≤ 64)
 (hb : bits ≤ 29) (hs : s ≤ 3) (m0 : 0 ≤ mo) (m1 : mo ≤ 2) (hx : allIn 2147483648 xs = true) (hw : allIn (2 ^ bits) ws = true) (w : World) (hvx : CxsAt w (.slice px n cx) xs) (hvw : CxsAt w (.slice pw n cw) ws) :
 Calls Tryz.prog 96 #[.slice px n cx, .slice pw n cw, h, bits, s, mo, inv] w fun e w' => ∃ v', e = .returned v' ∧ CxsAt w' v' (fourL xs ws h bits s mo inv) ∧ Gr w w' := by
 obtain ⟨i0, hi, hz0, hz1, hz2⟩ := info_parts info_cx
 have hL : fourL xs ws h bits s mo inv = (List.range n).map (fourAt xs ws h bits s mo inv) := by unfold fourL; rw [hl]
 rw [hL]
 have hn0 : 4 ≤ n := by
  have : 4 * h * 1 ≤ 4 * h * u := Nat.mul_le_mul_left _ hu1
  omega
 obtain ⟨b, o, cap, hvv, hlen, hbl, hc⟩ := hvx.at (by intro e; rw [e] at hl; simp at hl; omega)
 rw [hl] at hvv
 cases hvv
 have hcap : n ≤ cx := by
  obtain ⟨p, cp, hv2, hl2, _, _⟩ := hvx
  cases hv2
  omega
 have HC := kh fun j (hj : j < n) => hc j (xs.getD j ⟨0, 0⟩) (by rw [List.getD_eq_getElem?_getD, List.getElem?_eq_getElem (by omega)]; rfl)
 have HAT := kh (fourAt_at xs ws n h u bits s mo inv hl hu h1)
 have HIN := kh fun i hi => qpl_in n h u i hu h1 hi
 have HWK := kh fun i hi => qpl_walk n h u i hu h1 hi hn64
 have hXB : ∀ j, Bd 2147483648 (xs.getD j ⟨0, 0⟩) := by
  intro j
  rw [List.getD_eq_getElem?_getD]
  cases e : xs[j]? with
  | none => exact Bd.mk (by simp)
  | some a => exact (allIn_iff _ xs).1 hx a (List.mem_of_getElem? e)
 have HXB := kh hXB
 have VW := kh hvw
 have hd64 : 4 * h ≤ 64 := by
  have : 4 * h * 1 ≤ 4 * h * u := Nat.mul_le_mul_left _ hu1
  omega
 have w4 : wrap64 (4 * (h : Int)) = ((4 * h : Nat) : Int) := wmul 4 h (by omega)
 have hnu : (n : Int) / ((4 * h : Nat) : Int) = (u : Int) := by
  have : (n : Int) = ((4 * h : Nat) : Int) * (u : Int) := by rw [hu]; simp
  rw [this]
  exact Int.mul_ediv_cancel_left _ (by omega)
 have hnz : ¬ ((4 * h : Nat) : Int) = 0 := by omega
 have hule : u ≤ 64 := by
  have : 1 * u ≤ 4 * h * u := Nat.mul_le_mul_right _ (by omega)
  omega
 have HP := kh (And.intro hu (And.intro hb (And.intro hs (And.intro m0 (And.intro m1 (And.intro hw hm))))))
 clear hc hvx hvw hx hXB hL hlen hu hb hs m0 m1 hw hm hl
 generalize hT : fourAt xs ws h bits s mo inv = T at *
 have hd4 : 4 * (h : Int) = ((4 * h : Nat) : Int) := by omega
 generalize hd : 4 * h = d at *
 have HD := kh hd
 clear hd w4
 go_in
 go_wp2_with fail
 have hs0 : ((w.alloc (.cells #[] 50)).ownsRow w.heap.size 50 2 (.slice (some ⟨w.heap.size, 0, none⟩) 0 0) 0 []) := World.ownsRow_made w #[] 0 (Nat.le_refl _) (by unfold maxLen; omega) (by simp)
 go_loopw [17, 18] (fun out i wr => ∃ j : Nat, j ≤ n ∧ i = .int .i64 j ∧ wr.ownsRow w.heap.size 50 2 out j (gcells ((List.range j).map T)) ∧ Gr w wr)
  (fun _ i _ => n - (intOf i).toNat)
 case atStart => exact ⟨0, by omega, rfl, hs0, (Gr.refl _).alloc _ _⟩
 case round =>
  clear hs0;obtain ⟨i, hin, rfl, hrow, hg⟩ := hrel
  by_cases hlt : i < n
  ·obtain ⟨a1, a2, a3, a4, a5, a6, a7⟩ := HIN.out i hlt
   obtain ⟨k1, k2, k3, k4, k5, k6, k7, k8⟩ := HWK.out i hlt
   have hilt : (i : Int) < n := by omega
   have hf := HAT.out i;generalize hr : i % d = r at *;generalize hql : qpl h i = ql at *;obtain ⟨g, j, q⟩ := ql
   simp only at a1 a2 a3 a4 a5 a7 k2 k3 k5 k6 k7 k8 hf
   have HA := kh (And.intro a1 (And.intro a2 (And.intro a3 (And.intro a4 (And.intro a5 (And.intro a6 a7))))));have HF := kh hf;obtain ⟨s1, s2, s3, s4, s5, s6, s7, s8, s9, s10, s11, s12, s13⟩ := slice_nums h d n g j HD.out a1 a2 hn64;have hrn := root_nums h n u j a7 (by rw [HD.out]; exact hd64) a2 hn64;have HRN := kh hrn;clear hrn;have c0 := HC.out (g + j) s8;have c1 := HC.out (g + j + 2 * h) (by omega);have c2 := HC.out (g + j + h) (by omega);have c3 := HC.out (g + j + 3 * h) (by omega);have HCC := kh (And.intro c0 (And.intro c1 (And.intro c2 c3)));clear c0 c1 c2 c3;have HK := kh (And.intro k1 (And.intro k2 (And.intro k3 (And.intro k4 (And.intro k5 k6)))));clear hf a1 a2 a3 a4 a5 a6 a7 hql hr k1 k2 k6
   have hjw : (i : Int) % (h : Int) = (j : Int) := k5
   have hqw : wrap64 (q : Int) = (q : Int) := IntWalk.wrap64_in _ ⟨by have := HA.out.2.2.1; omega, by have := HA.out.2.2.1; omega⟩
   generalize 3 * h + 1 = la at *;generalize 3 * h = h3 at *;generalize 2 * h = h2 at *;generalize g + h3 + j + 1 = hi' at *;generalize g + h3 + j = hi2 at *;generalize g + h3 = hi3 at *;generalize hlo : g + j = lo at *
   have hlc : lo < cx := Nat.lt_of_lt_of_le s8 hcap
   have hic : hi' ≤ cx := Nat.le_trans s7 hcap
   have hnl : ¬ cx = lo := Nat.ne_of_gt hlc
   have hhc : (hi' : Int) ≤ (cx : Int) := Int.ofNat_le.2 hic
   have hlh : (lo : Int) ≤ (hi' : Int) := Int.ofNat_le.2 s6
   go_wp2_with fail
   try simp only [k4, k5, hqw]
   obtain ⟨r1, r2, r3, r4, r5, r6, r7, r8, r9, r10⟩ := HRN.out;obtain ⟨⟨c0, c0'⟩, ⟨c1, c1'⟩, ⟨c2, c2'⟩, c3, c3'⟩ := HCC.out;have hfq := HF.out;obtain ⟨hu, hb, hs, m0, m1, hw, hm⟩ := HP.out;have hrin := fun k => rootOf_in ws inv k (2 ^ bits) (Int.le_of_lt (pow_pos2 bits)) hw
   have hbi : ∀ a ∈ ws, absI a.im ≤ 4611686018427387904 := fun a ha => by
    have h1 := ((allIn_iff _ _).1 hw a ha).2;have h2 := pow29 bits hb
    omega
   have HR1 := kh fun W (hW : CxsAt W (.slice pw n cw) ws) => root10_c _ ws (j * u) inv (by rw [hm]; exact r8) hbi W hW
   have HR2 := kh fun W (hW : CxsAt W (.slice pw n cw) ws) => root10_c _ ws (2 * j * u) inv (by rw [hm]; exact r9) hbi W hW
   have HR3 := kh fun W (hW : CxsAt W (.slice pw n cw) ws) => root10_c _ ws (3 * j * u) inv (by rw [hm]; exact r10) hbi W hW
   have HPR := kh (prods11_c (xs.getD lo ⟨0, 0⟩) (xs.getD (lo + h2) ⟨0, 0⟩) (xs.getD (lo + h) ⟨0, 0⟩) (xs.getD (lo + h3) ⟨0, 0⟩) (rootOf ws inv (j * u)) (rootOf ws inv (2 * j * u)) (rootOf ws inv (3 * j * u)) bits hb (HXB.out _) (HXB.out _) (HXB.out _) (HXB.out _) (hrin _) (hrin _) (hrin _));have hpw := pow29 bits hb;have HO := kh (out11_c (gscale bits (xs.getD lo ⟨0, 0⟩)) (gmul (xs.getD (lo + h2) ⟨0, 0⟩) (rootOf ws inv (j * u))) (gmul (xs.getD (lo + h) ⟨0, 0⟩) (rootOf ws inv (2 * j * u))) (gmul (xs.getD (lo + h3) ⟨0, 0⟩) (rootOf ws inv (3 * j * u))) q bits s mo inv HA.out.2.2.1 hb hs m0 m1
    ((Bd.scale (HXB.out _) bits).mono (by omega)) ((Bd.mul (HXB.out _) (hrin _)).mono (by omega)) ((Bd.mul (HXB.out _) (hrin _)).mono (by omega)) ((Bd.mul (HXB.out _) (hrin _)).mono (by omega)))
   have hfo : grnd (bits + s) mo (quadSum inv q (gscale bits (xs.getD lo ⟨0, 0⟩)) (gmul (xs.getD (lo + h2) ⟨0, 0⟩) (rootOf ws inv (j * u))) (gmul (xs.getD (lo + h) ⟨0, 0⟩) (rootOf ws inv (2 * j * u))) (gmul (xs.getD (lo + h3) ⟨0, 0⟩) (rootOf ws inv (3 * j * u)))) = T i := by rw [hfq]; rfl
   rw [hfo] at HO;rw [Nat.add_mul, ← Nat.add_assoc] at c1 c1' c2 c2' c3 c3';generalize rootOf ws inv (j * u) = R1 at *;generalize rootOf ws inv (2 * j * u) = R2 at *;generalize rootOf ws inv (3 * j * u) = R3 at *;generalize xs.getD lo ⟨0, 0⟩ = A0 at *;generalize xs.getD (lo + h2) ⟨0, 0⟩ = A1 at *;generalize xs.getD (lo + h) ⟨0, 0⟩ = A2 at *;generalize xs.getD (lo + h3) ⟨0, 0⟩ = A3 at *;generalize gscale bits A0 = P0 at *;generalize gmul A1 R1 = P1 at *;generalize gmul A2 R2 = P2 at *;generalize gmul A3 R3 = P3 at *;generalize 2 * j * u = ju2 at *;generalize 3 * j * u = ju3 at *;generalize j * u = ju at *;generalize 2 * j = j2 at *;generalize 3 * j = j3 at *
   have hbw : b < wr.heap.size := Nat.lt_of_lt_of_le hbl hg.size
   have b0 : (0 : Int) < (la : Int) := by omega
   have b0n : 0 < la := by omega
   have b1 : (h2 : Int) < (la : Int) := Int.ofNat_lt.2 s10
   have b2 : (h : Int) < (la : Int) := Int.ofNat_lt.2 s11
   have b3 : (h3 : Int) < (la : Int) := Int.ofNat_lt.2 s12
   have KS := fun W (hG : Gr wr W) => And.intro ((hG.cell (p := ⟨b, _, none⟩) hbw).trans ((hg.cell (p := ⟨b, _, none⟩) hbl).trans c0)) (And.intro ((hG.cell (p := ⟨b, _, none⟩) hbw).trans ((hg.cell (p := ⟨b, _, none⟩) hbl).trans c0')) (And.intro ((hG.cell (p := ⟨b, _, none⟩) hbw).trans ((hg.cell (p := ⟨b, _, none⟩) hbl).trans c1)) (And.intro ((hG.cell (p := ⟨b, _, none⟩) hbw).trans ((hg.cell (p := ⟨b, _, none⟩) hbl).trans c1')) (And.intro ((hG.cell (p := ⟨b, _, none⟩) hbw).trans ((hg.cell (p := ⟨b, _, none⟩) hbl).trans c2)) (And.intro ((hG.cell (p := ⟨b, _, none⟩) hbw).trans ((hg.cell (p := ⟨b, _, none⟩) hbl).trans c2')) (And.intro ((hG.cell (p := ⟨b, _, none⟩) hbw).trans ((hg.cell (p := ⟨b, _, none⟩) hbl).trans c3)) (And.intro ((hG.cell (p := ⟨b, _, none⟩) hbw).trans ((hg.cell (p := ⟨b, _, none⟩) hbl).trans c3')) (Nat.lt_of_lt_of_le hbw hG.size))))))))
   clear HXB HAT HIN HWK HC HCC HRN HF HA HK HP hrin hbi hfq hfo c0 c0' c1 c1' c2 c2' c3 c3' hpw r8 r9 r10 s1 s2 s3 s4 s5 s6 s7 s8 s9 s13 k4 k5 hjw hu hw hm hb hs m0 m1
   go_cut [23] from 62 to 100 (fun pv wx' => ∃ B : Nat, pv = .pointer (some ⟨B, 0, none⟩) ∧ wr.heap.size ≤ B ∧ CellsAt wx' B 167 #[P0.re, P0.im, P1.re, P1.im, P2.re, P2.im, P3.re, P3.im] ∧ Gr wr wx')
   case first =>
    have hclG := gr_closed wr
    try simp only [List.append_eq, List.cons_append, List.nil_append]
    refine wp_region_grow (S := Gr wr) rfl (Gr.drew (Gr.refl _)) ?_;refine gT 0 hclG ?_;refine gT 1 hclG ?_;refine gK 2 hclG KS ?_;refine gT 3 hclG ?_;refine gT 4 hclG ?_;refine gT 5 hclG ?_;refine gT 6 hclG ?_;refine gK 7 hclG KS ?_;refine gT 8 hclG ?_;refine gT 9 hclG ?_;refine gT 10 hclG ?_;refine gK 11 hclG KS ?_;refine gT 12 hclG ?_;refine gT 13 hclG ?_;refine gT 14 hclG ?_;refine gT 15 hclG ?_;refine gK 16 hclG KS ?_;refine gT 17 hclG ?_;refine gT 18 hclG ?_;refine gT 19 hclG ?_;refine gT 20 hclG ?_;refine gT 21 hclG ?_;refine gC 22 hclG (fun W hS => HR1.out W (VW.out.gr (hg.trans hS))) ?_
    try simp only [Act.put, putS]
    refine gT 23 hclG ?_;refine gT 24 hclG ?_;refine gT 25 hclG ?_;refine gT 26 hclG ?_;refine gT 27 hclG ?_;refine gT 28 hclG ?_;refine gC 29 hclG (fun W hS => HR2.out W (VW.out.gr (hg.trans hS))) ?_
    try simp only [Act.put, putS]
    refine gT 30 hclG ?_;refine gT 31 hclG ?_;refine gT 32 hclG ?_;refine gT 33 hclG ?_;refine gT 34 hclG ?_;refine gT 35 hclG ?_;refine gC 36 hclG (fun W hS => HR3.out W (VW.out.gr (hg.trans hS))) ?_
    try simp only [Act.put, putS]
    refine gT 37 hclG ?_;refine gC 38 hclG (fun W hS => HPR.out W) ?_
    try simp only [Act.put, putS]
    refine gR 39 fun w1 g1 q1 K hK => ?_
    replace g1 := (Gr.drew (Gr.refl wr)).trans g1;have hB1 := g1.size
    go_simp
    have C1 := CellsAt.new w1 167 #[.int .i64 0, .int .i64 0, .int .i64 0, .int .i64 0, .int .i64 0, .int .i64 0, .int .i64 0, .int .i64 0];refine hK.out _ _ ?_ ?_
    ·exact Gr.alloc q1 _ _
    clear hK K
    try simp only [Act.put, putS]
    refine gR 40 fun w2 g2 q2 K hK => ?_
    have C2 := C1.gr g2;have G2 := (g1.alloc #[.int .i64 0, .int .i64 0, .int .i64 0, .int .i64 0, .int .i64 0, .int .i64 0, .int .i64 0, .int .i64 0] 167).trans g2;clear C1 g1 g2 q1;have lC := C2.lt;obtain ⟨fm0, fm1, fm2, fm3, fm4, fm5, fm6, fm7⟩ := C2.f8;obtain ⟨fc0, fc1, fc2, fc3, fc4, fc5, fc6, fc7⟩ := C2.t8
    go_simp
    have C3 := CellsAt.set8 (C2) (.int .i64 (P0).re) (.int .i64 (P0).im) (.int .i64 (P1).re) (.int .i64 (P1).im) (.int .i64 (P2).re) (.int .i64 (P2).im) (.int .i64 (P3).re) (.int .i64 (P3).im);have G3 := Gr.setCell (Gr.setCell (Gr.setCell (Gr.setCell (Gr.setCell (Gr.setCell (Gr.setCell (Gr.setCell (G2) (a := ⟨w1.heap.size, 0, none⟩) hB1 (.int .i64 (P0).re)) (a := ⟨w1.heap.size, 1, none⟩) hB1 (.int .i64 (P0).im)) (a := ⟨w1.heap.size, 2, none⟩) hB1 (.int .i64 (P1).re)) (a := ⟨w1.heap.size, 3, none⟩) hB1 (.int .i64 (P1).im)) (a := ⟨w1.heap.size, 4, none⟩) hB1 (.int .i64 (P2).re)) (a := ⟨w1.heap.size, 5, none⟩) hB1 (.int .i64 (P2).im)) (a := ⟨w1.heap.size, 6, none⟩) hB1 (.int .i64 (P3).re)) (a := ⟨w1.heap.size, 7, none⟩) hB1 (.int .i64 (P3).im);refine hK.out _ _ ?_ ?_
    ·exact G3
    clear hK K
    try simp only [Act.put, putS]
    refine wpG_done (by kernel_rfl) (fun w3 g3 => ?_) _;have C4 := C3.gr g3;have G4 := G3.trans g3;clear C2 C3 G2 G3 g3 fc0 fc1 fc2 fc3 fc4 fc5 fc6 fc7 fm0 fm1 fm2 fm3 fm4 fm5 fm6 fm7 q2 lC;go_wp2_with fail
    go_meet
    case rel => exact ⟨_, rfl, hB1, C4, G4⟩
   case rest =>
    obtain ⟨B, rfl, hB, hC, hG⟩ := hcut;have hrow2 := ownsRow_gr hrow hG;have hg2 := hg.trans hG
    have er : (List.range (i + 1)).map T = (List.range i).map T ++ [T i] := by rw [List.range_succ, List.map_append]; rfl
    have ER := kh er;clear er hrow hg hG KS HPR HR1 HR2 HR3 hbw hB VW;generalize T i = g' at *;obtain ⟨re, im⟩ := g'
    go_wp2_with (refine wpList_load_row rfl 167 _ rfl (B) rfl 167 _ (0, 0) _ hC Tryz.underlying167 rfl (by kernel_rfl) ?_)
    refine (HO.out _).mono ?_;rintro e wq ⟨rfl, hgq⟩;have hrow3 := ownsRow_gr hrow2 hgq;have hg3 := hg2.trans hgq;have hsz := hg3.size;clear hrow2 hg2 hgq HO hC
    go_wp2_with (at_builtin; refine wpList_append_own_at _ rfl (.tmp 101) (.tmp 109) 25 rfl w.heap.size 50 i0 (.agg #[.int .i64 0, .int .i64 0]) 2 16 Tryz.underlying25 hi hz0 hz1 hz2 rfl (by decide) _ _ _ rfl (hrow3.alloc _) ⟨wq.heap.size, 0, none⟩ 1 1 [.int .i64 re, .int .i64 im] rfl rfl (news_two _ _ _ _) (by simp [Value.oneCell']) (by unfold maxLen; omega) (by omega) (by simp; omega) ?_; intro v' w3 hown' hgrow _ hblk)
    have e : gcells ((List.range i).map T) ++ [.int .i64 re, .int .i64 im] = gcells ((List.range (i + 1)).map T) := by
     rw [ER.out, gcells_snoc]
    rw [e] at hown';have hg4 := (hg3.allocO _).grown hgrow (fun k e => (hrow3.lt k e).1)
    go_roundw
    case rel =>
     repeat apply Exists.intro
     refine ⟨?_, ?_, hown', hg4⟩
     ·omega
     ·go_num
    case measure => simp [intOf]; omega
  ·have he : i = n := by omega
   have hjn : (n : Int) ≤ (i : Int) := by omega
   clear HC HAT HIN HWK HXB HP VW;go_wp2_with fail
   go_ret
   refine ⟨_, rfl, ?_, hg⟩
   have := CxsAt.of_row hrow
   rw [he] at this
   exact this
end
section
open Go.ChangeShapes Go.WideShapes Go.ChangeAt Go.RowKit
set_option linter.unusedVariables false
set_option maxRecDepth 100000
set_option maxHeartbeats 16000000
theorem twoAt_eq (xs ws : List Gi) (h bits s : Nat) (mo : Int) (inv : Bool) (i : Nat) : twoAt xs ws h bits s mo inv i =
 if i % (2 * h) < h then pairUp bits s mo (xs.getD i ⟨0, 0⟩) (xs.getD (i + h) ⟨0, 0⟩) (rootOf ws inv (i % (2 * h) * (xs.length / (2 * h)))) else pairDown bits s mo (xs.getD (i - h) ⟨0, 0⟩) (xs.getD i ⟨0, 0⟩) (rootOf ws inv ((i % (2 * h) - h) * (xs.length / (2 * h)))) := rfl
theorem rootOf_bd (ws : List Gi) (inv : Bool) (k : Nat) (l : Int) (hk : k < ws.length) (h : allIn l ws = true) : absI (rootOf ws inv k).re ≤ l ∧ absI (rootOf ws inv k).im ≤ l := by
 obtain ⟨x, hx⟩ := get_of_lt hk
 have hb := (allIn_iff _ _).1 h x (List.mem_of_getElem? hx)
 have hg : ws.getD k ⟨0, 0⟩ = x := by rw [List.getD_eq_getElem?_getD, hx]; rfl
 unfold rootOf
 rw [hg]
 cases inv
 ·exact hb
 ·refine ⟨hb.1, ?_⟩
  have := absI_le.1 hb.2
  exact absI_le.2 (by show -l ≤ -x.im ∧ -x.im ≤ l; omega)
theorem pass_nums (n h u i : Nat) (hn : n = 2 * h * u) (h1 : 1 ≤ h) (hi : i < n) :
 (i % (2 * h) < h → i + h < n ∧ i % (2 * h) * u < n) ∧ (h ≤ i % (2 * h) → h ≤ i ∧ (i % (2 * h) - h) * u < n) ∧ i % (2 * h) < 2 * h ∧ n / (2 * h) = u := by
 have hd : 0 < 2 * h := by omega
 have e := Nat.div_add_mod i (2 * h)
 have hlt := Nat.mod_lt i hd
 have hq : i / (2 * h) < u := by
  rw [Nat.div_lt_iff_lt_mul hd, Nat.mul_comm u, ← hn]
  exact hi
 have hq2 : 2 * h * (i / (2 * h)) + 2 * h ≤ n := by
  rw [hn, ← Nat.mul_succ]
  exact Nat.mul_le_mul_left _ hq
 have hu : 1 ≤ u := Nat.lt_of_le_of_lt (Nat.zero_le _) hq
 have hhu : h * u < n := by
  rw [hn, Nat.mul_assoc]
  have : 1 ≤ h * u := Nat.mul_le_mul h1 hu
  omega
 refine ⟨fun hj => ⟨by omega, ?_⟩, fun hj => ⟨?_, ?_⟩, hlt, ?_⟩
 ·exact Nat.lt_of_le_of_lt (Nat.mul_le_mul_right u (Nat.le_of_lt hj)) hhu
 ·exact Nat.le_trans hj (Nat.mod_le _ _)
 ·exact Nat.lt_of_le_of_lt (Nat.mul_le_mul_right u (by omega)) hhu
 ·rw [hn]
  exact Nat.mul_div_cancel_left u hd
theorem pass_walk (n h u i : Nat) (hn : n = 2 * h * u) (h1 : 1 ≤ h) (hi : i < n) (hn64 : n ≤ 64) :
 (i : Int).tmod ((2 * h : Nat) : Int) = ((i % (2 * h) : Nat) : Int) ∧ (n : Int).tdiv ((2 * h : Nat) : Int) = u ∧ IntKind.i64.wrap (u : Int) = u ∧ ¬ ((2 * h : Nat) : Int) = 0 ∧
 (i % (2 * h) < h → IntKind.i64.wrap (((i % (2 * h) : Nat) : Int) * u) = ((i % (2 * h) * u : Nat) : Int) ∧ IntKind.i64.wrap ((i : Int) + h) = ((i + h : Nat) : Int)) ∧
 (h ≤ i % (2 * h) → IntKind.i64.wrap (((i % (2 * h) : Nat) : Int) - h) = ((i % (2 * h) - h : Nat) : Int) ∧ IntKind.i64.wrap (((i % (2 * h) - h : Nat) : Int) * u) = (((i % (2 * h) - h) * u : Nat) : Int) ∧ IntKind.i64.wrap ((i : Int) - h) = ((i - h : Nat) : Int)) := by
 have hp := pass_nums n h u i hn h1 hi
 have e1 : (n : Int).tdiv ((2 * h : Nat) : Int) = ((n / (2 * h) : Nat) : Int) := by rw [Int.tdiv_eq_ediv_of_nonneg (by omega)]; simp
 rw [hp.2.2.2] at e1
 have e2 : (i : Int).tmod ((2 * h : Nat) : Int) = ((i % (2 * h) : Nat) : Int) := by rw [Int.tmod_eq_emod_of_nonneg (by omega)]; simp
 have hu : u ≤ n := by rw [← hp.2.2.2]; exact Nat.div_le_self _ _
 refine ⟨e2, e1, ?_, by omega, fun hj => ?_, fun hj => ?_⟩
 ·clear hp e1 e2 hn
  exact IntWalk.i64_in _ ⟨by omega, by omega⟩
 ·obtain ⟨h2, h3⟩ := hp.1 hj
  rw [show ((i % (2 * h) : Nat) : Int) * u = ((i % (2 * h) * u : Nat) : Int) by simp];generalize i % (2 * h) * u = k at *;clear hp e1 e2 hn hu hj
  exact ⟨IntWalk.i64_in _ ⟨by omega, by omega⟩, by rw [IntWalk.i64_in _ ⟨by omega, by omega⟩]; omega⟩
 ·obtain ⟨h2, h3⟩ := hp.2.1 hj
  have h4 : i % (2 * h) ≤ i := Nat.mod_le _ _
  rw [show ((i % (2 * h) - h : Nat) : Int) * u = (((i % (2 * h) - h) * u : Nat) : Int) by simp];generalize (i % (2 * h) - h) * u = k at *;generalize i % (2 * h) = j at *;clear hp e1 e2 hn hu
  exact ⟨by rw [IntWalk.i64_in _ ⟨by omega, by omega⟩]; omega, IntWalk.i64_in _ ⟨by omega, by omega⟩, by rw [IntWalk.i64_in _ ⟨by omega, by omega⟩]; omega⟩
set_option maxRecDepth 10000 in set_option maxHeartbeats 2000000 in
theorem pass10_c (px pw : Option Addr) (cx cw : Nat) (xs ws : List Gi) (n h u bits s : Nat) (mo : Int) (inv : Bool) (hn : xs.length = n) (hm : ws.length = n) (hu : n = 2 * h * u) (h1 : 1 ≤ h) (hn0 : ¬ n = 0) (hn64 : n ≤ 64)
 (hb : bits ≤ 29) (hs : s ≤ 3) (m0 : 0 ≤ mo) (m1 : mo ≤ 2) (hx : allIn 2147483648 xs = true) (hw : allIn (2 ^ bits) ws = true) (w : World) (hvx : CxsAt w (.slice px n cx) xs) (hvw : CxsAt w (.slice pw n cw) ws) :
 Calls Tryz.prog 95 #[.slice px n cx, .slice pw n cw, h, bits, s, mo, inv] w fun e w' => ∃ v', e = .returned v' ∧ CxsAt w' v' (twoL xs ws h bits s mo inv) ∧ Gr w w' := by
 obtain ⟨i0, hi, hz0, hz1, hz2⟩ := info_parts info_cx
 have hL : twoL xs ws h bits s mo inv = (List.range n).map (twoAt xs ws h bits s mo inv) := by unfold twoL; rw [hn]
 rw [hL]
 ·obtain ⟨b, o, cap, hvv, hlen, hbl, hc⟩ := hvx.at (by intro e; rw [e] at hn; simp at hn; omega)
  rw [hn] at hvv
  cases hvv
  have hh64 : 2 * h ≤ 64 := by
   have hu1 : 1 ≤ u := by
    rcases Nat.eq_zero_or_pos u with e | e
    ·rw [e] at hu
     omega
    ·exact e
   have : 2 * h * 1 ≤ 2 * h * u := Nat.mul_le_mul_left _ hu1
   omega
  have HX := (allIn_iff _ _).1 hx;have HC := kh fun j (hj : j < n) => hc j (xs.getD j ⟨0, 0⟩) (by rw [List.getD_eq_getElem?_getD, List.getElem?_eq_getElem (by omega)]; rfl)
  have HXB := kh fun j (hj : j < n) => HX (xs.getD j ⟨0, 0⟩) (by rw [List.getD_eq_getElem?_getD, List.getElem?_eq_getElem (by omega)]; exact List.getElem_mem _)
  have HRB := kh fun k (hk : k < n) => rootOf_bd ws inv k (2 ^ bits) (by omega) hw
  have hbb : (2 : Int) ^ bits ≤ 2147483648 := pow_le31 _ (by omega)
  have HRT := kh fun k (hk : k < n) W (hW : CxsAt W (.slice pw n cw) ws) => root10_c _ ws k inv (by omega) (fun a ha => by have := ((allIn_iff _ _).1 hw a ha).2; omega) W hW
  have HUP := kh fun a b w ha hb' hw' => up10_c a b w bits s mo hb hs m0 m1 ha hb' hw'
  have HDN := kh fun a b w ha hb' hw' => down10_c a b w bits s mo hb hs m0 m1 ha hb' hw'
  have HPN := kh fun i (hi : i < n) => pass_nums n h u i hu h1 hi
  have HPW := kh fun i (hi : i < n) => pass_walk n h u i hu h1 hi hn64
  have HAT := kh (twoAt_eq xs ws h bits s mo inv);rw [hn] at HAT;have VW := kh hvw
  have hw2h : wrap64 (2 * (h : Int)) = ((2 * h : Nat) : Int) := by rw [IntWalk.wrap64_in _ (by omega)]; omega
  clear hc hvx hvw hx hw HX hL hu hbb hb hs m0 m1 hn hm hlen;generalize twoAt xs ws h bits s mo inv = T at *;go_in;go_wp2_with fail
  have hs0 : ((w.alloc (.cells #[] 50)).ownsRow w.heap.size 50 2 (.slice (some ⟨w.heap.size, 0, none⟩) 0 0) 0 []) := World.ownsRow_made w #[] 0 (Nat.le_refl _) (by unfold maxLen; omega) (by simp)
  go_loopw [16, 17, 18] (fun out i _ wr => ∃ j : Nat, j ≤ n ∧ i = .int .i64 j ∧ wr.ownsRow w.heap.size 50 2 out j (gcells ((List.range j).map T)) ∧ Gr w wr)
   (fun _ i _ _ => n - (intOf i).toNat)
  case atStart => exact ⟨0, by omega, rfl, hs0, (Gr.refl _).alloc _ _⟩
  case round =>
   clear hs0;obtain ⟨i, hin, rfl, hrow, hg⟩ := hrel
   by_cases hlt : i < n
   ·have hp := HPN.out i hlt
    have hilt : (i : Int) < n := by omega
    obtain ⟨htm0, hnd0, hwu, hnz2, hwk, hwk2⟩ := HPW.out i hlt
    have htm : ∀ x : Int, x = ((2 * h : Nat) : Int) → (i : Int).tmod x = ((i % (2 * h) : Nat) : Int) := fun x e => by rw [e]; exact htm0
    have hnd : ∀ x : Int, x = ((2 * h : Nat) : Int) → (n : Int).tdiv x = u := fun x e => by rw [e]; exact hnd0
    clear htm0 hnd0
    have hnz : (((2 * h : Nat) : Int) == 0) = false := by simpa using hnz2
    have a0 := (HC.out i hlt).1;have a1 := (HC.out i hlt).2
    have er : (List.range (i + 1)).map T = (List.range i).map T ++ [T i] := by rw [List.range_succ, List.map_append]; rfl
    have ER := kh er;clear er
    by_cases hj : i % (2 * h) < h
    ·obtain ⟨hi2, hk⟩ := hp.1 hj
     have b0 := (HC.out (i + h) hi2).1;have b1 := (HC.out (i + h) hi2).2;have hTi := HAT.out i;rw [if_pos hj, hp.2.2.2] at hTi;have hxa := HXB.out i hlt;have hxb := HXB.out (i + h) hi2;have hrb := HRB.out _ hk;have HR1 := kh (HRT.out _ hk);have HU1 := kh (HUP.out (xs.getD i ⟨0, 0⟩) (xs.getD (i + h) ⟨0, 0⟩) (rootOf ws inv (i % (2 * h) * u)) hxa hxb hrb);have HTI := kh hTi;obtain ⟨hmk, hwi⟩ := hwk hj;clear hwk hwk2
     have hi2' : ((i + h : Nat) : Int) < n := by omega
     have hj' : ((i % (2 * h) : Nat) : Int) < h := by omega
     have hw2w : IntKind.i64.wrap (2 * (h : Int)) = ((2 * h : Nat) : Int) := by rw [IntWalk.i64_in _ ⟨by omega, by omega⟩]; omega
     have hdz : ¬ 2 * h = 0 := by omega
     have VW1 := kh (VW.out.gr hg)
     have hblw : b < wr.heap.size := Nat.lt_of_lt_of_le hbl hg.size
     clear HC HXB HRB HRT HUP HDN HPN HPW HAT hTi hxa hxb hrb hp hj;generalize i % (2 * h) * u = k at *;generalize rootOf ws inv k = R at *;generalize i % (2 * h) = jj at *;generalize 2 * h = d at *;generalize i + h = i2 at *;generalize pairUp bits s mo (xs.getD i ⟨0, 0⟩) (xs.getD i2 ⟨0, 0⟩) R = P at *;generalize xs.getD i ⟨0, 0⟩ = A at *;generalize xs.getD i2 ⟨0, 0⟩ = Bb at *;obtain ⟨ax, ay⟩ := A;obtain ⟨bx, by0⟩ := Bb;obtain ⟨rx, ry⟩ := R;obtain ⟨p0, p1⟩ := P
     simp only at a0 a1 b0 b1 HR1 HU1
     have HW8 := kh (And.intro hnd (And.intro hwu (And.intro hmk (And.intro hwi (And.intro hw2w hnz2)))));clear hnd hwu hmk hwi hw2w hnz2;go_wp2_with fail;obtain ⟨hnd, hwu, hmk, hwi, hw2w, hnz2⟩ := HW8.out;clear HW8 hw2h htm hnz
     have KS : ∀ W, Gr w W → (W.cell? ⟨b, o + i * 2, none⟩ = some (.int .i64 ax) ∧ W.cell? ⟨b, o + i * 2 + 1, none⟩ = some (.int .i64 ay) ∧ W.cell? ⟨b, o + i2 * 2, none⟩ = some (.int .i64 bx) ∧ W.cell? ⟨b, o + i2 * 2 + 1, none⟩ = some (.int .i64 by0) ∧ b < W.heap.size ∧ Gr w W) := fun W hG => ⟨(hG.cell (p := ⟨b, o + i * 2, none⟩) hbl).trans a0, (hG.cell (p := ⟨b, o + i * 2 + 1, none⟩) hbl).trans a1, (hG.cell (p := ⟨b, o + i2 * 2, none⟩) hbl).trans b0, (hG.cell (p := ⟨b, o + i2 * 2 + 1, none⟩) hbl).trans b1, Nat.lt_of_lt_of_le hbl hG.size, hG⟩
     refine wp_region_held_drew (S := fun W => W.cell? ⟨b, o + i * 2, none⟩ = some (.int .i64 ax) ∧ W.cell? ⟨b, o + i * 2 + 1, none⟩ = some (.int .i64 ay) ∧ W.cell? ⟨b, o + i2 * 2, none⟩ = some (.int .i64 bx) ∧ W.cell? ⟨b, o + i2 * 2 + 1, none⟩ = some (.int .i64 by0) ∧ b < W.heap.size ∧ Gr w W) rfl (KS _ (Gr.drew hg)) (fun hS => ?_);refine hT 0 ?_;refine hT 1 ?_;refine hT 2 ?_;refine hT 3 ?_;refine hT 4 ?_;refine hT 5 ?_;refine hT 6 ?_;refine hT 7 ?_;refine hT 8 ?_;refine hT 9 ?_;refine hT 10 ?_;refine hT 11 ?_;refine hT 12 ?_;refine hT 13 ?_;refine hT 14 ?_;refine hT 15 ?_;refine hT 16 ?_;refine hT 17 ?_;refine hT 18 ?_;refine hT 20 ?_;refine hT 21 ?_;refine hT 22 ?_;refine hR 19 fun K hK => ?_
     go_simp
     go_at_call 92
     refine (HR1.out _ (VW.out.gr (by go_split_ands; assumption))).mono ?_;rintro e w5 ⟨rfl, g5⟩;have gr5 := g5
     have gw5 : Gr w w5 := Gr.trans (by go_split_ands; assumption) g5
     have hrow5 : w5.ownsRow w.heap.size 50 2 u16 i (gcells ((List.range i).map T)) := ownsRow_gr (by exact ownsRow_gr hrow (Gr.drew (Gr.refl _))) g5
     refine hK.out _ _ ?_ (fun hHeld => ?_)
     ·(exact KS _ gw5)
     clear hK K
     try simp only [Act.put, putS]
     refine hR 23 fun K hK => ?_
     go_simp
     go_at_call 139
     refine (HU1.out _).mono ?_;rintro e w6 ⟨rfl, g6⟩
     have gw6 : Gr w w6 := gw5.trans g6
     have hrow6 := (ownsRow_gr hrow5 g6).alloc (.cells #[p0, p1] 50);refine hK.out _ _ ?_ (fun hHeld => ?_)
     ·(exact KS _ gw6)
     clear hK K
     try simp only [Act.put, putS]
     refine hR 24 fun K hK => ?_
     go_simp
     have gw7 : Gr w (w6.alloc (.cells #[p0, p1] 50)) := gw6.alloc _ _
     refine hK.out _ _ ?_ (fun hHeld => ?_)
     ·(exact KS _ gw7)
     clear hK K
     try simp only [Act.put, putS]
     have hsz6 := gw6.size;refine hR 25 fun K hK => ?_
     refine Go.step_append_lies _ rfl (.tmp 34) (.tmp 58) 25 rfl w.heap.size 50 i0 (.agg #[.int .i64 0, .int .i64 0]) 2 16 Tryz.underlying25 hi hz0 hz1 hz2 rfl (by decide) u16 i _ rfl hrow6 ⟨w6.heap.size, 0, none⟩ 1 1 [.int .i64 p0, .int .i64 p1] rfl rfl (news_two _ _ _ _) (by simp [Value.oneCell']) (by omega) (by unfold maxLen; omega) (by omega) (by simp; omega) _ rfl ?_
     intro gb gcap w8 hown8 hgrow8 hor8 hlt8
     have gw8 : Gr w w8 := gw7.grown hgrow8 (fun k e => (hrow6.lt k e).1)
     refine hK.out _ _ ?_ (fun hHeld => ?_)
     ·(exact KS _ gw8)
     clear hK K
     try simp only [Act.put, putS]
     refine hT 26 ?_;refine wpAnyH_done (by kernel_rfl) ?_ _
     have e : gcells ((List.range i).map T) ++ [.int .i64 p0, .int .i64 p1] = gcells ((List.range (i + 1)).map T) := by
      rw [ER.out, HTI.out, gcells_snoc]
     rw [e] at hown8;go_wp2_with fail
     go_roundw
     case rel => exact ⟨i + 1, by omega, by go_num, hown8, gw8⟩
     case measure => simp [intOf] <;> omega
    ·have hj2 : h ≤ i % (2 * h) := by omega
     obtain ⟨hih, hk⟩ := hp.2.1 hj2
     have hi2 : i - h < n := by omega
     have b0 := (HC.out (i - h) hi2).1;have b1 := (HC.out (i - h) hi2).2;have hTi := HAT.out i;rw [if_neg hj, hp.2.2.2] at hTi;have hxa := HXB.out i hlt;have hxb := HXB.out (i - h) hi2;have hrb := HRB.out _ hk;have HR1 := kh (HRT.out _ hk);have HU1 := kh (HDN.out (xs.getD (i - h) ⟨0, 0⟩) (xs.getD i ⟨0, 0⟩) (rootOf ws inv ((i % (2 * h) - h) * u)) hxb hxa hrb);have HTI := kh hTi;obtain ⟨hwj, hmk, hwi⟩ := hwk2 hj2;clear hwk hwk2
     have hi2' : ((i - h : Nat) : Int) < n := by omega
     have hj' : (h : Int) ≤ ((i % (2 * h) : Nat) : Int) := by omega
     have hw2w : IntKind.i64.wrap (2 * (h : Int)) = ((2 * h : Nat) : Int) := by rw [IntWalk.i64_in _ ⟨by omega, by omega⟩]; omega
     have hdz : ¬ 2 * h = 0 := by omega
     have VW1 := kh (VW.out.gr hg)
     have hblw : b < wr.heap.size := Nat.lt_of_lt_of_le hbl hg.size
     clear HC HXB HRB HRT HUP HDN HPN HPW HAT hTi hxa hxb hrb hp hj hj2 hih;generalize (i % (2 * h) - h) * u = k at *;generalize hjh : i % (2 * h) - h = jh at *;clear hjh;generalize rootOf ws inv k = R at *;generalize i % (2 * h) = jj at *;generalize 2 * h = d at *;generalize i - h = i2 at *;generalize pairDown bits s mo (xs.getD i2 ⟨0, 0⟩) (xs.getD i ⟨0, 0⟩) R = P at *;generalize xs.getD i ⟨0, 0⟩ = A at *;generalize xs.getD i2 ⟨0, 0⟩ = Bb at *;obtain ⟨ax, ay⟩ := A;obtain ⟨bx, by0⟩ := Bb;obtain ⟨rx, ry⟩ := R;obtain ⟨p0, p1⟩ := P
     simp only at a0 a1 b0 b1 HR1 HU1
     have HW8 := kh (And.intro hnd (And.intro hwu (And.intro hmk (And.intro hwi (And.intro hw2w (And.intro hnz2 hwj))))));clear hnd hwu hmk hwi hw2w hnz2 hwj;go_wp2_with fail;obtain ⟨hnd, hwu, hmk, hwi, hw2w, hnz2, hwj⟩ := HW8.out;clear HW8 hw2h htm hnz
     have KS : ∀ W, Gr w W → (W.cell? ⟨b, o + i * 2, none⟩ = some (.int .i64 ax) ∧ W.cell? ⟨b, o + i * 2 + 1, none⟩ = some (.int .i64 ay) ∧ W.cell? ⟨b, o + i2 * 2, none⟩ = some (.int .i64 bx) ∧ W.cell? ⟨b, o + i2 * 2 + 1, none⟩ = some (.int .i64 by0) ∧ b < W.heap.size ∧ Gr w W) := fun W hG => ⟨(hG.cell (p := ⟨b, o + i * 2, none⟩) hbl).trans a0, (hG.cell (p := ⟨b, o + i * 2 + 1, none⟩) hbl).trans a1, (hG.cell (p := ⟨b, o + i2 * 2, none⟩) hbl).trans b0, (hG.cell (p := ⟨b, o + i2 * 2 + 1, none⟩) hbl).trans b1, Nat.lt_of_lt_of_le hbl hG.size, hG⟩
     refine wp_region_held_drew (S := fun W => W.cell? ⟨b, o + i * 2, none⟩ = some (.int .i64 ax) ∧ W.cell? ⟨b, o + i * 2 + 1, none⟩ = some (.int .i64 ay) ∧ W.cell? ⟨b, o + i2 * 2, none⟩ = some (.int .i64 bx) ∧ W.cell? ⟨b, o + i2 * 2 + 1, none⟩ = some (.int .i64 by0) ∧ b < W.heap.size ∧ Gr w W) rfl (KS _ (Gr.drew hg)) (fun hS => ?_);refine hT 0 ?_;refine hT 1 ?_;refine hT 2 ?_;refine hT 3 ?_;refine hT 4 ?_;refine hT 5 ?_;refine hT 6 ?_;refine hT 7 ?_;refine hT 8 ?_;refine hT 9 ?_;refine hT 10 ?_;refine hT 11 ?_;refine hT 12 ?_;refine hT 13 ?_;refine hT 14 ?_;refine hT 15 ?_;refine hT 16 ?_;refine hT 17 ?_;refine hT 18 ?_;refine hT 19 ?_;refine hT 20 ?_;refine hT 22 ?_;refine hT 23 ?_;refine hT 24 ?_;refine hR 21 fun K hK => ?_
     go_simp
     go_at_call 92
     refine (HR1.out _ (VW.out.gr (by go_split_ands; assumption))).mono ?_;rintro e w5 ⟨rfl, g5⟩;have gr5 := g5
     have gw5 : Gr w w5 := Gr.trans (by go_split_ands; assumption) g5
     have hrow5 : w5.ownsRow w.heap.size 50 2 u16 i (gcells ((List.range i).map T)) := ownsRow_gr (by exact ownsRow_gr hrow (Gr.drew (Gr.refl _))) g5
     refine hK.out _ _ ?_ (fun hHeld => ?_)
     ·(exact KS _ gw5)
     clear hK K
     try simp only [Act.put, putS]
     refine hR 25 fun K hK => ?_
     go_simp
     go_at_call 140
     refine (HU1.out _).mono ?_;rintro e w6 ⟨rfl, g6⟩
     have gw6 : Gr w w6 := gw5.trans g6
     have hrow6 := (ownsRow_gr hrow5 g6).alloc (.cells #[p0, p1] 50);refine hK.out _ _ ?_ (fun hHeld => ?_)
     ·(exact KS _ gw6)
     clear hK K
     try simp only [Act.put, putS]
     refine hR 26 fun K hK => ?_
     go_simp
     have gw7 : Gr w (w6.alloc (.cells #[p0, p1] 50)) := gw6.alloc _ _
     refine hK.out _ _ ?_ (fun hHeld => ?_)
     ·(exact KS _ gw7)
     clear hK K
     try simp only [Act.put, putS]
     have hsz6 := gw6.size;refine hR 27 fun K hK => ?_
     refine Go.step_append_lies _ rfl (.tmp 60) (.tmp 86) 25 rfl w.heap.size 50 i0 (.agg #[.int .i64 0, .int .i64 0]) 2 16 Tryz.underlying25 hi hz0 hz1 hz2 rfl (by decide) u16 i _ rfl hrow6 ⟨w6.heap.size, 0, none⟩ 1 1 [.int .i64 p0, .int .i64 p1] rfl rfl (news_two _ _ _ _) (by simp [Value.oneCell']) (by omega) (by unfold maxLen; omega) (by omega) (by simp; omega) _ rfl ?_
     intro gb gcap w8 hown8 hgrow8 hor8 hlt8
     have gw8 : Gr w w8 := gw7.grown hgrow8 (fun k e => (hrow6.lt k e).1)
     refine hK.out _ _ ?_ (fun hHeld => ?_)
     ·(exact KS _ gw8)
     clear hK K
     try simp only [Act.put, putS]
     refine hT 28 ?_;refine wpAnyH_done (by kernel_rfl) ?_ _
     have e : gcells ((List.range i).map T) ++ [.int .i64 p0, .int .i64 p1] = gcells ((List.range (i + 1)).map T) := by
      rw [ER.out, HTI.out, gcells_snoc]
     rw [e] at hown8;go_wp2_with fail
     go_roundw
     case rel => exact ⟨i + 1, by omega, by go_num, hown8, gw8⟩
     case measure => simp [intOf] <;> omega
   ·obtain rfl : i = n := by omega
    clear HC HXB HRB HRT HUP HDN HPN HPW HAT;go_wp2_with fail
    go_ret
    exact ⟨_, rfl, CxsAt.of_row hrow, hg⟩
end
end Go.Proofs.YtdignnmpfkgkoaaGreat
