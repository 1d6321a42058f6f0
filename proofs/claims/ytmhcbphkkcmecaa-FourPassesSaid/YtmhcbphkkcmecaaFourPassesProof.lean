/- Proved: for every input, the law FourPasses answers true at this commit, and its arguments read afterwards as before. No condition. -/
import Derived.Test.YtmhcbphkkcmecaaRows
import Derived.WalkKit
import Derived.ProofKit
import Derived.OpenShut
import Derived.Lib.SmallJoins
import Derived.ChangeOld
import Derived.Below
import Derived.Test.YtmhcbphkkcmecaaFourPassesCore
import Derived.Test.YtmhcbphkkcmecaaCxs
import Derived.Test.YtmhcbphkkcmecaaRef11d
import Derived.Test.YtmhcbphkkcmecaaLaw11
import Derived.Test.YtmhcbphkkcmecaaFourCode7
namespace Go.Proofs.Ytmhcbphkkcmecaa.fourPasses
open Go.ChangeShapes Go.WideShapes Go.ChangeAt Go.RowKit Go.Joins
set_option linter.unusedVariables false

theorem own : ownKnob Try.prog.godebug = none := by kernel_rfl
theorem laidOut : laidOutB Try.prog = true := by kernel_rfl


theorem passes11_all (p q : Option Addr) (l1 l2 cap1 cap2 m1 m2 : Nat) (hh b s mo : Int) (inv : Bool) (xs ws : List Gi) (hm1 : m1 ≤ cap1) (hm2 : m2 ≤ cap2) (h71 : m1 ≤ 70) (hn : xs.length = m1) (hm : ws.length = m2)
    (hmin1 : (if (70 : Int) < (l1 : Int) then 70 else (l1 : Int)) = (m1 : Int)) (hmin2 : (if (70 : Int) < (l2 : Int) then 70 else (l2 : Int)) = (m2 : Int))
    (w : World) (hx : CxsAt w (.slice p m1 cap1) xs) (hw : CxsAt w (.slice q m2 cap2) ws) :
    Calls Try.prog 4 #[.slice p l1 cap1, .slice q l2 cap2, .int .i64 hh, .int .i64 b, .int .i64 s, .int .i64 mo, .bool inv] w fun e w' => e = .returned (.bool true) ∧ Gr w w' := by
  obtain ⟨part, hp⟩ : ∃ part : Bool, part = true ↔ QuarterOk hh m1 := by
    by_cases h : QuarterOk hh m1
    · exact ⟨true, by simp [h]⟩
    · exact ⟨false, by simp [h]⟩
  obtain ⟨inw, hiw⟩ : ∃ inw : Bool, ∀ B : Nat, b = (B : Int) → B ≤ 29 → inw = allIn (2 ^ B) ws := ⟨allIn (2 ^ b.toNat) ws, fun B h _ => by rw [h, Int.toNat_natCast]⟩
  obtain ⟨e, he⟩ := whyIs_ex m1 m2 part b s mo (allIn 2147483648 xs) inw
  by_cases h0 : e = 0
  · subst h0
    have hc : (∃ L, IsLog (m1 : Int) L) ∧ m2 = m1 ∧ part = true ∧ SetsOk b s mo ∧ allIn 2147483648 xs = true ∧ inw = true := by
      rcases he with ⟨_, h⟩ | ⟨_, _, h⟩ | ⟨_, _, _, h⟩ | ⟨_, _, _, _, _, h⟩ | ⟨g1, g2, g3, g4, g5, g6, _⟩
      · exact absurd h (by decide)
      · exact absurd h (by decide)
      · exact absurd h (by decide)
      · exact absurd h (by decide)
      · exact ⟨g1, g2, g3, g4, g5, g6⟩
    obtain ⟨hL, e2, e3, hS, hx1, hw1⟩ := hc
    subst e2
    subst e3
    obtain ⟨k, hk, rfl⟩ := hp.1 rfl
    obtain ⟨B, rfl⟩ : ∃ B : Nat, b = (B : Int) := ⟨b.toNat, by have := hS.1.1; omega⟩
    obtain ⟨sN, rfl⟩ : ∃ sN : Nat, s = (sN : Int) := ⟨s.toNat, by have := hS.2.1.1; omega⟩
    have hB : B ≤ 29 := by have := hS.1.2; omega
    have hw2 : allIn (2 ^ B) ws = true := by rw [← hiw B rfl hB, hw1]
    obtain ⟨u, hu, hu1, hn64⟩ := quarter_units m2 k hL hk
    exact fourPasses_ok p q l1 l2 cap1 cap2 m2 m2 _ B sN mo inv xs ws (fourL xs ws (2 ^ k) B sN mo inv) hm1 hm2 hmin1 hmin2
      (Lib.hid fun W a c => fourPass_yes p q cap1 cap2 xs ws m2 k B sN mo inv hn hm hL hk hS hx1 hw2 W a c)
      (Lib.hid (quarter11_c _ m2 h71 true hp))
      (Lib.hid fun W a c => may10_c p q cap1 cap2 xs ws m2 m2 true B sN mo 0 _ inw hn hm rfl hiw he W a c)
      (Lib.hid fun W a c => pass11_c p q cap1 cap2 xs ws m2 (2 ^ k) u B sN mo inv hn hm hu Nat.one_le_two_pow hu1 hn64 hB (by have := hS.2.1.2; omega) hS.2.2.1 hS.2.2.2 hx1 hw2 W a c)
      (Lib.hid alive11_c) w hx hw
  · exact fourPasses_bad p q l1 l2 cap1 cap2 m1 m2 hh b s mo e inv part xs ws hm1 hm2 hmin1 hmin2 (by simpa using h0)
      (Lib.hid fun W a c => fourPass_no p q cap1 cap2 xs ws m1 m2 hh part b s mo e inv _ inw hp rfl hiw he h0 W a c)
      (Lib.hid (quarter11_c _ m1 h71 part hp))
      (Lib.hid fun W a c => may10_c p q cap1 cap2 xs ws m1 m2 part b s mo e _ inw hn hm rfl hiw he W a c)
      (Lib.hid alive11_c) w hx hw


set_option maxHeartbeats 4000000 in
set_option maxRecDepth 100000 in
theorem walk (w : World) (sp0 : Option Addr) (sc0 : Nat) (xs0 : List Gi) (sp1 : Option Addr) (sc1 : Nat) (xs1 : List Gi) (a2 : Int) (a3 : Int) (a4 : Int) (a5 : Int) (a6 : Bool) (wx0 : ∀ g ∈ xs0, (Lit.int .i64 g.re).wf = true ∧ (Lit.int .i64 g.im).wf = true) (hx0 : CxsAt w (.slice sp0 xs0.length sc0) xs0) (wx1 : ∀ g ∈ xs1, (Lit.int .i64 g.re).wf = true ∧ (Lit.int .i64 g.im).wf = true) (hx1 : CxsAt w (.slice sp1 xs1.length sc1) xs1) (w2 : (Lit.int .i64 a2).wf = true) (w3 : (Lit.int .i64 a3).wf = true) (w4 : (Lit.int .i64 a4).wf = true) (w5 : (Lit.int .i64 a5).wf = true) :
    Calls Try.prog 4 #[.slice sp0 xs0.length sc0, .slice sp1 xs1.length sc1, .int .i64 a2, .int .i64 a3, .int .i64 a4, .int .i64 a5, .bool a6] w fun e w' => e = .returned (.bool true) ∧ Gr w w' := by
  obtain ⟨m1, hm1, h71, hmin1⟩ := cut70 xs0.length
  obtain ⟨hc1, hl1, hcap1, _⟩ := hx0.cut m1 hm1
  obtain ⟨m2, hm2, h72, hmin2⟩ := cut70 xs1.length
  obtain ⟨hc2, hl2, hcap2, _⟩ := hx1.cut m2 hm2
  exact passes11_all sp0 sp1 xs0.length xs1.length sc0 sc1 m1 m2 a2 a3 a4 a5 a6 (xs0.take m1) (xs1.take m2) hcap1 hcap2 h71 hl1 hl2 hmin1 hmin2 w hc1 hc2

set_option maxHeartbeats 4000000 in
set_option maxRecDepth 100000 in
theorem lifted (os : Os) (started : os.Started) (H : Type) (enc : TypeId × Value → H) :
    ReturnsInHanded {} Try.checked os 4 .any (Rows.fourPassesSpec.pre6 enc Try.prog Try.f4 Rows.fourPassesRow.domain false) (Rows.fourPassesSpec.post enc Try.prog Try.f4 false true false false) := by
  refine returnsInHanded_of_change (C := Try.checked) own started (by kernel_rfl) Try.func4
    (ChangeSpec.witness6 (enc := enc) (C := Try.checked) false ⟨#[], #[.slice none 0 0, .slice none 0 0, .int .i64 0, .int .i64 0, .int .i64 0, .int .i64 0, .bool false], []⟩ 8 (by kernel_rfl) (by kernel_rfl) (by kernel_rfl) (by kernel_rfl)) ?_
  intro W base args ds gs before hval0 hW hcnd _
  have hval : ∀ (j : Nat) t v, Try.f4.params[j]? = some t → args[j]? = some v → Value.okWide Try.prog W .any base t v := hval0
  have hW' := hW
  obtain ⟨p, q, hA0, hV, rfl, hfz, hnd⟩ := hW
  have hA : DataW.TrodAll enc Try.prog W 0 (fun _ => true) true Try.f4.params.toList args.toList ds p := hA0
  rw [Try.params4] at hA hval
  obtain ⟨v0, vs0, d0, ds0, p0, q0, hargs, rfl, rfl, h0, r0⟩ := trodAll_cons hA
  obtain ⟨v1, vs1, d1, ds1, p1, q1, rfl, rfl, rfl, h1, r1⟩ := trodAll_cons r0
  obtain ⟨v2, vs2, d2, ds2, p2, q2, rfl, rfl, rfl, h2, r2⟩ := trodAll_cons r1
  obtain ⟨v3, vs3, d3, ds3, p3, q3, rfl, rfl, rfl, h3, r3⟩ := trodAll_cons r2
  obtain ⟨v4, vs4, d4, ds4, p4, q4, rfl, rfl, rfl, h4, r4⟩ := trodAll_cons r3
  obtain ⟨v5, vs5, d5, ds5, p5, q5, rfl, rfl, rfl, h5, r5⟩ := trodAll_cons r4
  obtain ⟨v6, vs6, d6, ds6, p6, q6, rfl, rfl, rfl, h6, r6⟩ := trodAll_cons r5
  obtain ⟨rfl, rfl, rfl⟩ := trodAll_nil r6
  obtain rfl : args = #[v0, v1, v2, v3, v4, v5, v6] := by cases args; simp_all
  obtain ⟨rfl, rfl⟩ := trodVars_none hV
  obtain ⟨sp0, sn0, sc0, rfl⟩ := okWide_slice Try.underlying37 (hval 0 37 v0 rfl rfl)
  have k0 := h0
  have lt0 : ∀ x ∈ p0, x.block < W.heap.size := by obtain ⟨m, hm⟩ := k0; exact DataW.trod_lt m _ _ _ hm
  obtain ⟨xs0, rfl, hx0, wx0⟩ : ∃ xs : List Gi, sn0 = xs.length ∧ CxsAt W (.slice sp0 sn0 sc0) xs ∧ ∀ g ∈ xs, (Lit.int .i64 g.re).wf = true ∧ (Lit.int .i64 g.im).wf = true := by
    obtain ⟨fuel, hf⟩ := h0
    exact cxs_open hf
  obtain ⟨sp1, sn1, sc1, rfl⟩ := okWide_slice Try.underlying37 (hval 1 37 v1 rfl rfl)
  have k1 := h1
  have lt1 : ∀ x ∈ p1, x.block < W.heap.size := by obtain ⟨m, hm⟩ := k1; exact DataW.trod_lt m _ _ _ hm
  obtain ⟨xs1, rfl, hx1, wx1⟩ : ∃ xs : List Gi, sn1 = xs.length ∧ CxsAt W (.slice sp1 sn1 sc1) xs ∧ ∀ g ∈ xs, (Lit.int .i64 g.re).wf = true ∧ (Lit.int .i64 g.im).wf = true := by
    obtain ⟨fuel, hf⟩ := h1
    exact cxs_open hf
  obtain ⟨a2, rfl, rfl, rfl, w2⟩ := open_int Try.underlying3 (hval 2 3 v2 rfl rfl) h2
  obtain ⟨a3, rfl, rfl, rfl, w3⟩ := open_int Try.underlying3 (hval 3 3 v3 rfl rfl) h3
  obtain ⟨a4, rfl, rfl, rfl, w4⟩ := open_int Try.underlying3 (hval 4 3 v4 rfl rfl) h4
  obtain ⟨a5, rfl, rfl, rfl, w5⟩ := open_int Try.underlying3 (hval 5 3 v5 rfl rfl) h5
  obtain ⟨a6, rfl, rfl, rfl⟩ := open_bool Try.underlying4 (hval 6 4 v6 rfl rfl) h6
  clear hA0 hval0
  refine (walk W sp0 sc0 xs0 sp1 sc1 xs1 a2 a3 a4 a5 a6 wx0 hx0 wx1 hx1 w2 w3 w4 w5).mono fun e W' ⟨he, hg⟩ => ?_
  subst he
  exact ⟨_, rfl, _, _, _, [], _, [], hW', trodAll_mk1 (shut_bool Try.underlying4 _), (trodAll_cons_mk (Below.trod laidOut (by kernel_rfl) (of_decide_eq_true (by kernel_rfl)) k0 hg.out lt0) (trodAll_cons_mk (Below.trod laidOut (by kernel_rfl) (of_decide_eq_true (by kernel_rfl)) k1 hg.out lt1) (trodAll_cons_mk (shut_int Try.underlying3 w2) (trodAll_cons_mk (shut_int Try.underlying3 w3) (trodAll_cons_mk (shut_int Try.underlying3 w4) (trodAll_cons_mk (shut_int Try.underlying3 w5) (trodAll_cons_mk (shut_bool Try.underlying4 a6) trodAll_mk0))))))), rfl, hg.out.frame _, fun h => by cases h⟩

theorem over : Rows.fourPassesRow.holds Try.pinned (OpenSpec.ofChange Rows.fourPassesSpec) :=
  OpenClaim.holds_of_wide 4 Try.f4 rfl rfl rfl rfl rfl rfl rfl ⟨rfl, rfl, rfl, rfl, rfl⟩ rfl rfl rfl rfl rfl (by kernel_rfl) Try.func4 (by kernel_rfl)
    (of_decide_eq_true (by kernel_rfl)) (by unfold Func.isWrapper; first | (rw [if_pos (by decide +kernel)]; kernel_rfl) | (rw [if_neg (by decide +kernel)]; exact ⟨rfl, rfl⟩))
    (fun os started H enc _ => lifted os started H enc)

/-- THE STATEMENT -/
theorem proved : Rows.FourPassesSaid :=
  over
#print axioms proved
end Go.Proofs.Ytmhcbphkkcmecaa.fourPasses
