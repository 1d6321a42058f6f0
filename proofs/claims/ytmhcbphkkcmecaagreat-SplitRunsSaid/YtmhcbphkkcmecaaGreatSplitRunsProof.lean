/- Proved: for every input, the law SplitRuns answers true at this commit, and its arguments read afterwards as before. No condition. -/
import Derived.Test.YtmhcbphkkcmecaaGreatRows
import Derived.WalkKit
import Derived.ProofKit
import Derived.OpenShut
import Derived.Lib.SmallJoins
import Derived.ChangeOld
import Derived.Below
import Derived.Test.YtmhcbphkkcmecaaGreatSplitRunsCore
import Derived.Test.YtmhcbphkkcmecaaGreatSplitRoot
namespace Go.Proofs.YtmhcbphkkcmecaaGreat.splitRuns
open Go.ChangeShapes Go.WideShapes Go.ChangeAt Go.RowKit Go.Joins
set_option linter.unusedVariables false

theorem own : ownKnob Tryz.prog.godebug = none := by kernel_rfl
theorem laidOut : laidOutB Tryz.prog = true := by kernel_rfl


theorem runs_yes (p : Option Addr) (l1 cap1 m1 L B : Nat) (f b pp lim R mo : Int) (inv : Bool) (xs : List Gi) (hm1 : m1 ≤ cap1) (hmin1 : (if (70 : Int) < (l1 : Int) then 70 else (l1 : Int)) = (m1 : Int)) (hl : xs.length = m1)
    (H : FB f b pp) (hBb : (B : Int) = b - 2) (hlim : lim = pp / 2) (hR0 : 0 ≤ R) (hRB : R + 30 ≤ 3 * 2 ^ B) (hin : allIn lim xs = true) (hlen : ∀ a ∈ xs, Len R a) (h : RunYes m1 f mo xs L B) (w : World) (hx : CxsAt w (.slice p m1 cap1) xs) :
    Calls Tryz.prog 3 #[.slice p l1 cap1, .int .i64 f, .int .i64 mo, .bool inv] w fun e w' => e = .returned (.bool true) ∧ Gr w w' := by
  obtain ⟨hn2, hN, hb, hm, _, hwl⟩ := run_facts inv h
  obtain ⟨⟨l0, l6, hnL⟩, ⟨m0, m2⟩, _⟩ := id h
  have hnl : (m1 : Int) = 2 ^ (L : Int).toNat := by rw [hn2, Int.toNat_natCast]; simp
  have HT := Lib.hid (rTwid12_c L m1 f b pp (by omega) (by omega) hnl H)
  rw [show (56 - (b - 2)).toNat = 56 - B by omega] at HT
  have HB := Lib.hid (bits12_c f b pp H)
  rw [← hBb] at HB
  have HH := Lib.hid fun W v => rHalf_c (.slice p m1 cap1) xs f b pp lim H hlim W v
  rw [hin] at HH
  refine runs_ok p l1 cap1 m1 f mo inv xs hm1 hmin1 L (by omega) B m0 m2 (sL B mo inv (rootsL m1 (56 - B)) L xs) (rootsL m1 (56 - B)) hwl (Lib.hid fun W v => sRun_yes p cap1 m1 f mo inv xs L B hl h W v)
    (Lib.hid (rlog08_yes m1 L ⟨l0, l6, hnL⟩)) (Lib.hid (rfmt_yes f b pp H)) HH HT HB ?_ (Lib.hid alive12_c) w hx
  refine Lib.hid fun q c W v1 v2 => ?_
  have := rRun12_c B mo inv (rootsL m1 (56 - B)) L m1 l6 hn2 hwl (by omega) m0 m2 (fun k => roots_len m1 hN B (by omega) (by omega) inv k) (fun k hk => roots_in m1 hN B (by omega) (by omega) k (by omega)) R hR0 hRB q c L (Nat.le_refl _) xs p cap1 W (by rw [hl, hn2])
    (fun j hj => by
      have hjl : j < xs.length := by rw [hl, hn2]; exact hj
      rw [List.getD_eq_getElem?_getD, List.getElem?_eq_getElem hjl]
      exact hlen _ (List.getElem_mem hjl)) (by rw [← hn2]; exact v1) v2
  rw [← hn2] at this
  exact this

theorem runs_all (p : Option Addr) (l1 cap1 m1 : Nat) (f mo : Int) (inv : Bool) (xs : List Gi) (hm1 : m1 ≤ cap1) (hmin1 : (if (70 : Int) < (l1 : Int) then 70 else (l1 : Int)) = (m1 : Int)) (hl : xs.length = m1) (w : World) (hx : CxsAt w (.slice p m1 cap1) xs) :
    Calls Tryz.prog 3 #[.slice p l1 cap1, .int .i64 f, .int .i64 mo, .bool inv] w fun e w' => e = .returned (.bool true) ∧ Gr w w' := by
  rcases run_cases m1 f mo xs with ⟨e, h⟩ | ⟨L, B, h⟩
  · have HP := Lib.hid fun W v => sRun_no p cap1 m1 f mo e inv xs hl h W v
    cases h with
    | size h => exact runs_size p l1 cap1 m1 f mo inv xs hm1 hmin1 HP (Lib.hid (rlog08_none m1 h)) (Lib.hid alive12_c) w hx
    | arg h k =>
      obtain ⟨L, hL⟩ := h
      refine runs_arg p l1 cap1 m1 f mo inv xs hm1 hmin1 L (by omega) (f == 0 || f == 1) ?_ HP (Lib.hid (rlog08_yes m1 L hL)) (Lib.hid (rfmt_c f)) (Lib.hid alive12_c) w hx
      rcases k with k | k
      · exact .inl (by simp; omega)
      · exact .inr k
    | range h lim b pp H hlim m0 m2 k =>
      obtain ⟨L, hL⟩ := h
      have HH := Lib.hid fun W v => rHalf_c (.slice p m1 cap1) xs f b pp lim H hlim W v
      rw [k] at HH
      exact runs_range p l1 cap1 m1 f mo inv xs hm1 hmin1 L (by omega) m0 m2 HP (Lib.hid (rlog08_yes m1 L hL)) (Lib.hid (rfmt_yes f b pp H)) HH (Lib.hid alive12_c) w hx
  · obtain ⟨_, _, ⟨rfl, rfl, hin⟩ | ⟨rfl, rfl, hin⟩⟩ := id h
    · exact runs_yes p l1 cap1 m1 L 13 0 15 32768 16384 23171 mo inv xs hm1 hmin1 hl (by unfold FB; omega) (by decide) (by decide) (by omega) (by decide) hin (fun a ha => len_start _ 16384 23171 (by decide) (by omega) ((allIn_iff 16384 xs).1 hin a ha)) h w hx
    · exact runs_yes p l1 cap1 m1 L 29 1 31 2147483648 1073741824 1518500250 mo inv xs hm1 hmin1 hl (by unfold FB; omega) (by decide) (by decide) (by omega) (by decide) hin (fun a ha => len_start _ 1073741824 1518500250 (by decide) (by omega) ((allIn_iff 1073741824 xs).1 hin a ha)) h w hx


set_option maxHeartbeats 4000000 in
set_option maxRecDepth 100000 in
theorem walk (w : World) (sp0 : Option Addr) (sc0 : Nat) (xs0 : List Gi) (a1 : Int) (a2 : Int) (a3 : Bool) (wx0 : ∀ g ∈ xs0, (Lit.int .i64 g.re).wf = true ∧ (Lit.int .i64 g.im).wf = true) (hx0 : CxsAt w (.slice sp0 xs0.length sc0) xs0) (w1 : (Lit.int .i64 a1).wf = true) (w2 : (Lit.int .i64 a2).wf = true) :
    Calls Tryz.prog 3 #[.slice sp0 xs0.length sc0, .int .i64 a1, .int .i64 a2, .bool a3] w fun e w' => e = .returned (.bool true) ∧ Gr w w' := by
  obtain ⟨m1, hm1, h71, hmin1⟩ := cut70 xs0.length
  obtain ⟨hc1, hl1, hcap1, _⟩ := hx0.cut m1 hm1
  exact runs_all sp0 xs0.length sc0 m1 a1 a2 a3 (xs0.take m1) hcap1 hmin1 hl1 w hc1

set_option maxHeartbeats 4000000 in
set_option maxRecDepth 100000 in
theorem lifted (os : Os) (started : os.Started) (H : Type) (enc : TypeId × Value → H) :
    ReturnsInHanded {} Tryz.checked os 3 .any (Rows.splitRunsSpec.pre6 enc Tryz.prog Tryz.f3 Rows.splitRunsRow.domain false) (Rows.splitRunsSpec.post enc Tryz.prog Tryz.f3 false true false false) := by
  refine returnsInHanded_of_change (C := Tryz.checked) own started (by kernel_rfl) Tryz.func3
    (ChangeSpec.witness6 (enc := enc) (C := Tryz.checked) false ⟨#[], #[.slice none 0 0, .int .i64 0, .int .i64 0, .bool false], []⟩ 8 (by kernel_rfl) (by kernel_rfl) (by kernel_rfl) (by kernel_rfl)) ?_
  intro W base args ds gs before hval0 hW hcnd _
  have hval : ∀ (j : Nat) t v, Tryz.f3.params[j]? = some t → args[j]? = some v → Value.okWide Tryz.prog W .any base t v := hval0
  have hW' := hW
  obtain ⟨p, q, hA0, hV, rfl, hfz, hnd⟩ := hW
  have hA : DataW.TrodAll enc Tryz.prog W 0 (fun _ => true) true Tryz.f3.params.toList args.toList ds p := hA0
  rw [Tryz.params3] at hA hval
  obtain ⟨v0, vs0, d0, ds0, p0, q0, hargs, rfl, rfl, h0, r0⟩ := trodAll_cons hA
  obtain ⟨v1, vs1, d1, ds1, p1, q1, rfl, rfl, rfl, h1, r1⟩ := trodAll_cons r0
  obtain ⟨v2, vs2, d2, ds2, p2, q2, rfl, rfl, rfl, h2, r2⟩ := trodAll_cons r1
  obtain ⟨v3, vs3, d3, ds3, p3, q3, rfl, rfl, rfl, h3, r3⟩ := trodAll_cons r2
  obtain ⟨rfl, rfl, rfl⟩ := trodAll_nil r3
  obtain rfl : args = #[v0, v1, v2, v3] := by cases args; simp_all
  obtain ⟨rfl, rfl⟩ := trodVars_none hV
  obtain ⟨sp0, sn0, sc0, rfl⟩ := okWide_slice Tryz.underlying22 (hval 0 22 v0 rfl rfl)
  have k0 := h0
  have lt0 : ∀ x ∈ p0, x.block < W.heap.size := by obtain ⟨m, hm⟩ := k0; exact DataW.trod_lt m _ _ _ hm
  obtain ⟨xs0, rfl, hx0, wx0⟩ : ∃ xs : List Gi, sn0 = xs.length ∧ CxsAt W (.slice sp0 sn0 sc0) xs ∧ ∀ g ∈ xs, (Lit.int .i64 g.re).wf = true ∧ (Lit.int .i64 g.im).wf = true := by
    obtain ⟨fuel, hf⟩ := h0
    exact cxs_open hf
  obtain ⟨a1, rfl, rfl, rfl, w1⟩ := open_int Tryz.underlying3 (hval 1 3 v1 rfl rfl) h1
  obtain ⟨a2, rfl, rfl, rfl, w2⟩ := open_int Tryz.underlying3 (hval 2 3 v2 rfl rfl) h2
  obtain ⟨a3, rfl, rfl, rfl⟩ := open_bool Tryz.underlying4 (hval 3 4 v3 rfl rfl) h3
  clear hA0 hval0
  refine (walk W sp0 sc0 xs0 a1 a2 a3 wx0 hx0 w1 w2).mono fun e W' ⟨he, hg⟩ => ?_
  subst he
  exact ⟨_, rfl, _, _, _, [], _, [], hW', trodAll_mk1 (shut_bool Tryz.underlying4 _), (trodAll_cons_mk (Below.trod laidOut (by kernel_rfl) (of_decide_eq_true (by kernel_rfl)) k0 hg.out lt0) (trodAll_cons_mk (shut_int Tryz.underlying3 w1) (trodAll_cons_mk (shut_int Tryz.underlying3 w2) (trodAll_cons_mk (shut_bool Tryz.underlying4 a3) trodAll_mk0)))), rfl, hg.out.frame _, fun h => by cases h⟩

theorem over : Rows.splitRunsRow.holds Tryz.pinned (OpenSpec.ofChange Rows.splitRunsSpec) :=
  OpenClaim.holds_of_wide 3 Tryz.f3 rfl rfl rfl rfl rfl rfl rfl ⟨rfl, rfl, rfl, rfl, rfl⟩ rfl rfl rfl rfl rfl (by kernel_rfl) Tryz.func3 (by kernel_rfl)
    (of_decide_eq_true (by kernel_rfl)) (by unfold Func.isWrapper; first | (rw [if_pos (by decide +kernel)]; kernel_rfl) | (rw [if_neg (by decide +kernel)]; exact ⟨rfl, rfl⟩))
    (fun os started H enc _ => lifted os started H enc)

/-- THE STATEMENT -/
theorem proved : Rows.SplitRunsSaid :=
  over
#print axioms proved
end Go.Proofs.YtmhcbphkkcmecaaGreat.splitRuns
