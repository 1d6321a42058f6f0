/- Proved: for every input, the law SplitSame answers true at this commit, and its arguments read afterwards as before. No condition. -/
import Derived.Test.YtmhcbphkkcmecaaRows
import Derived.WalkKit
import Derived.ProofKit
import Derived.OpenShut
import Derived.Lib.SmallJoins
import Derived.ChangeOld
import Derived.Below
import Derived.Test.YtmhcbphkkcmecaaSplitSameCore
import Derived.Test.YtmhcbphkkcmecaaCxs
namespace Go.Proofs.Ytmhcbphkkcmecaa.splitSame
open Go.ChangeShapes Go.WideShapes Go.ChangeAt Go.RowKit Go.Joins
set_option linter.unusedVariables false

theorem own : ownKnob Try.prog.godebug = none := by kernel_rfl

theorem cellsC : Try.prog.cellsOf 23 = 2 := by kernel_rfl

theorem same_all (x0 y0 f mo : Int) (inv : Bool) (g : Gi) (n L : Nat) (hL : IsLog (n : Int) L) (hf : f = 0 ∨ f = 1) (m0 : 0 ≤ mo) (m1 : mo ≤ 2) (hg : (-16384 ≤ g.re ∧ g.re ≤ 16384) ∧ -16384 ≤ g.im ∧ g.im ≤ 16384) :
    ∃ X Y : List Gi, (∀ p c W, CxsAt W (.slice p n c) ((List.range n).map (fun _ => g)) → Calls Try.prog 27 #[.slice p n c, .int .i64 f, .int .i64 mo, .bool inv] W fun e w' => ∃ v, e = .returned (.tuple #[v, .int .i64 0]) ∧ CxsAt w' v X ∧ Gr W w') ∧
      (∀ p c W, CxsAt W (.slice p n c) ((List.range n).map (fun i => if i = 0 then g else ⟨0, 0⟩)) → Calls Try.prog 27 #[.slice p n c, .int .i64 f, .int .i64 mo, .bool inv] W fun e w' => ∃ v, e = .returned (.tuple #[v, .int .i64 0]) ∧ CxsAt w' v Y ∧ Gr W w') ∧
      X.length = n ∧ Y.length = n ∧ X.getD 0 ⟨0, 0⟩ = g ∧ (∀ i, i < n → 0 < i → X.getD i ⟨0, 0⟩ = ⟨0, 0⟩) ∧ (∀ i, i < n → NearN n (Y.getD i ⟨0, 0⟩).re g.re ∧ NearN n (Y.getD i ⟨0, 0⟩).im g.im) := by
  have in1 : ∀ l : Int, 16384 ≤ l → allIn l ((List.range n).map (fun _ => g)) = true := by
    intro l hl
    rw [allIn_iff]
    intro a ha
    obtain ⟨i, _, rfl⟩ := List.mem_map.1 ha
    exact ⟨absI_le.2 (by omega), absI_le.2 (by omega)⟩
  have in2 : ∀ l : Int, 16384 ≤ l → allIn l ((List.range n).map (fun i => if i = 0 then g else ⟨0, 0⟩)) = true := by
    intro l hl
    rw [allIn_iff]
    intro a ha
    obtain ⟨i, _, rfl⟩ := List.mem_map.1 ha
    split
    · exact ⟨absI_le.2 (by omega), absI_le.2 (by omega)⟩
    · exact ⟨absI_le.2 (by simp only; omega), absI_le.2 (by simp only; omega)⟩
  obtain ⟨B, hy1, hy2⟩ : ∃ B, RunYes n f mo ((List.range n).map (fun _ => g)) L B ∧ RunYes n f mo ((List.range n).map (fun i => if i = 0 then g else ⟨0, 0⟩)) L B := by
    rcases hf with rfl | rfl
    · exact ⟨13, ⟨hL, ⟨m0, m1⟩, .inl ⟨rfl, rfl, in1 _ (by omega)⟩⟩, ⟨hL, ⟨m0, m1⟩, .inl ⟨rfl, rfl, in2 _ (by omega)⟩⟩⟩
    · exact ⟨29, ⟨hL, ⟨m0, m1⟩, .inr ⟨rfl, rfl, in1 _ (by omega)⟩⟩, ⟨hL, ⟨m0, m1⟩, .inr ⟨rfl, rfl, in2 _ (by omega)⟩⟩⟩
  obtain ⟨hn2, hN, hb, hm, hw0, hwl⟩ := run_facts inv hy1
  have h64 : n ≤ 64 := by rcases hN with h | h | h | h | h <;> omega
  have hpos : 0 < n := by rcases hN with h | h | h | h | h <;> omega
  have hcast : ((n : Nat) : Int) = 2 ^ L := by rw [hn2]; simp
  have eX := sL_same B mo inv (rootsL n (56 - B)) L ((List.range n).map (fun _ => g)) g hm hw0 (fun j hj => getD_map _ _ _ (by rw [hn2]; exact hj))
  have eY := sL_congr B mo inv (rootsL n (56 - B)) L ((List.range n).map (fun i => if i = 0 then g else ⟨0, 0⟩)) (fun j => if j = 0 then g else ⟨0, 0⟩) (fun j hj => getD_map _ _ _ (by rw [hn2]; exact hj))
  refine ⟨_, _, fun p c W v => sRun_yes p c n f mo inv _ L B (by simp) hy1 W v, fun p c W v => sRun_yes p c n f mo inv _ L B (by simp) hy2 W v, by rw [sL_len, hn2], by rw [sL_len, hn2], ?_, fun i hi hi0 => ?_, fun i hi => ?_⟩
  · rw [eX, getD_map _ _ _ (Nat.two_pow_pos L)]
    rfl
  · rw [eX, getD_map _ _ _ (by rw [← hn2]; exact hi), if_neg (by omega)]
  · have hi2 : i < 2 ^ L := by rw [← hn2]; exact hi
    rw [eY, getD_map _ _ _ hi2]
    have := spl_one B mo inv (rootOf (rootsL n (56 - B)) inv) (rootsL n (56 - B)).length g hm hw0 L i hi2
    rw [← hcast] at this
    exact ⟨near_of n _ _ h64 hg.1 (by omega), near_of n _ _ h64 hg.2 (by omega)⟩


set_option maxHeartbeats 4000000 in
set_option maxRecDepth 100000 in
theorem walk (w : World) (x0 y0 : Int) (a1 : Int) (a2 : Int) (a3 : Int) (a4 : Bool) (wx0 : (Lit.int .i64 x0).wf = true) (wy0 : (Lit.int .i64 y0).wf = true) (w1 : (Lit.int .i64 a1).wf = true) (w2 : (Lit.int .i64 a2).wf = true) (w3 : (Lit.int .i64 a3).wf = true) :
    Calls Try.prog 8 #[.agg #[.int .i64 x0, .int .i64 y0], .int .i64 a1, .int .i64 a2, .int .i64 a3, .bool a4] w fun e w' => e = .returned (.bool true) ∧ Gr w w' := by
  have k1 := mod_walk a1 5 (by omega)
  have k2 := mod_walk a2 2 (by omega)
  have k3 := mod_walk a3 3 (by omega)
  obtain ⟨r, hr⟩ : ∃ r, a1.tmod 5 = r := ⟨_, rfl⟩
  obtain ⟨t, ht⟩ : ∃ t, a2.tmod 2 = t := ⟨_, rfl⟩
  obtain ⟨u, hu⟩ : ∃ u, a3.tmod 3 = u := ⟨_, rfl⟩
  rw [hr] at k1
  rw [ht] at k2
  rw [hu] at k3
  obtain ⟨r6, hr6⟩ : ∃ r6, (r + 5).tmod 5 = r6 := ⟨_, rfl⟩
  obtain ⟨f, hf⟩ : ∃ f, (t + 2).tmod 2 = f := ⟨_, rfl⟩
  obtain ⟨mo, hmo⟩ : ∃ mo, (u + 3).tmod 3 = mo := ⟨_, rfl⟩
  rw [hr6] at k1
  rw [hf] at k2
  rw [hmo] at k3
  have x1 := Int.lt_tmod_of_pos x0 (show (0 : Int) < 16384 by omega)
  have x2 := Int.tmod_lt_of_pos x0 (show (0 : Int) < 16384 by omega)
  have y1 := Int.lt_tmod_of_pos y0 (show (0 : Int) < 16384 by omega)
  have y2 := Int.tmod_lt_of_pos y0 (show (0 : Int) < 16384 by omega)
  obtain ⟨L, hL⟩ : ∃ L : Nat, r6 + 2 = (L : Int) := ⟨(r6 + 2).toNat, by omega⟩
  have hlog : IsLog ((2 ^ L : Nat) : Int) L := ⟨by omega, by omega, rfl⟩
  have h4 : 4 ≤ 2 ^ L := Nat.pow_le_pow_right (n := 2) (by omega) (show 2 ≤ L by omega)
  have h64 : 2 ^ L ≤ 64 := Nat.pow_le_pow_right (n := 2) (by omega) (show L ≤ 6 by omega)
  have hcast : ((2 ^ L : Nat) : Int) = 2 ^ L := by simp
  obtain ⟨X, Y, h1, h2, h3, h5, h6, h7, h8⟩ := same_all x0 y0 f mo a4 ⟨x0.tmod 16384, y0.tmod 16384⟩ (2 ^ L) L hlog (by omega) (by omega) (by omega) (by simp only; omega)
  exact splitSame_of x0 y0 a1 a2 a3 r (r + 5) r6 (L : Int) t (t + 2) f u (u + 3) mo a4 ⟨x0.tmod 16384, y0.tmod 16384⟩ (2 ^ L) X Y hr (IntWalk.wrap64_in _ (by omega)) hr6 (by rw [hL]; exact IntWalk.wrap64_in _ (by omega)) ht (IntWalk.wrap64_in _ (by omega)) hf hu (IntWalk.wrap64_in _ (by omega)) hmo rfl rfl
    (by rw [Int.toNat_natCast, Nat.min_eq_left (by omega), ← hcast]; exact IntWalk.i64_in _ ⟨by omega, by omega⟩) (by omega) h4 h64 (Lib.hid h1) (Lib.hid h2) h3 h5 h6 (Lib.hid h7) (Lib.hid h8) (Lib.hid alive12_c) w

set_option maxHeartbeats 4000000 in
set_option maxRecDepth 100000 in
theorem lifted (os : Os) (started : os.Started) (H : Type) (enc : TypeId × Value → H) :
    ReturnsInHanded {} Try.checked os 8 .any (Rows.splitSameSpec.pre6 enc Try.prog Try.f8 Rows.splitSameRow.domain false) (Rows.splitSameSpec.post enc Try.prog Try.f8 false true false false) := by
  refine returnsInHanded_of_change (C := Try.checked) own started (by kernel_rfl) Try.func8
    (ChangeSpec.witness6 (enc := enc) (C := Try.checked) false ⟨#[], #[.agg #[.int .i64 0, .int .i64 0], .int .i64 0, .int .i64 0, .int .i64 0, .bool false], []⟩ 8 (by kernel_rfl) (by kernel_rfl) (by kernel_rfl) (by kernel_rfl)) ?_
  intro W base args ds gs before hval0 hW hcnd _
  have hval : ∀ (j : Nat) t v, Try.f8.params[j]? = some t → args[j]? = some v → Value.okWide Try.prog W .any base t v := hval0
  have hW' := hW
  obtain ⟨p, q, hA0, hV, rfl, hfz, hnd⟩ := hW
  have hA : DataW.TrodAll enc Try.prog W 0 (fun _ => true) true Try.f8.params.toList args.toList ds p := hA0
  rw [Try.params8] at hA hval
  obtain ⟨v0, vs0, d0, ds0, p0, q0, hargs, rfl, rfl, h0, r0⟩ := trodAll_cons hA
  obtain ⟨v1, vs1, d1, ds1, p1, q1, rfl, rfl, rfl, h1, r1⟩ := trodAll_cons r0
  obtain ⟨v2, vs2, d2, ds2, p2, q2, rfl, rfl, rfl, h2, r2⟩ := trodAll_cons r1
  obtain ⟨v3, vs3, d3, ds3, p3, q3, rfl, rfl, rfl, h3, r3⟩ := trodAll_cons r2
  obtain ⟨v4, vs4, d4, ds4, p4, q4, rfl, rfl, rfl, h4, r4⟩ := trodAll_cons r3
  obtain ⟨rfl, rfl, rfl⟩ := trodAll_nil r4
  obtain rfl : args = #[v0, v1, v2, v3, v4] := by cases args; simp_all
  obtain ⟨rfl, rfl⟩ := trodVars_none hV
  obtain ⟨c00, c01, z00, z01, m0, rfl, rfl, rfl, hy00, hy01⟩ := open_agg2 Try.underlying23 (by kernel_rfl) cellsC (hval 0 23 v0 rfl rfl) h0
  obtain ⟨x0, e00, rfl, wx0⟩ := DataW.trod_int Try.underlying3 hy00
  obtain ⟨y0, e01, rfl, wy0⟩ := DataW.trod_int Try.underlying3 hy01
  simp at e00 e01
  subst e00 e01
  have s0 : ∀ (W' : World) (sp : Nat → Bool), DataW.Trod enc Try.prog W' 0 sp true 23 (.agg #[.int .i64 x0, .int .i64 y0]) (.agg [.lit (.int .i64 x0), .lit (.int .i64 y0)]) [] := fun W' sp =>
    shut_agg2 (y0 := (.lit (.int .i64 x0), [])) (y1 := (.lit (.int .i64 y0), [])) Try.underlying23 (by kernel_rfl) cellsC ⟨1, by simp [DataW.trod, Try.underlying3, wx0]⟩ ⟨1, by simp [DataW.trod, Try.underlying3, wy0]⟩
  obtain ⟨a1, rfl, rfl, rfl, w1⟩ := open_int Try.underlying3 (hval 1 3 v1 rfl rfl) h1
  obtain ⟨a2, rfl, rfl, rfl, w2⟩ := open_int Try.underlying3 (hval 2 3 v2 rfl rfl) h2
  obtain ⟨a3, rfl, rfl, rfl, w3⟩ := open_int Try.underlying3 (hval 3 3 v3 rfl rfl) h3
  obtain ⟨a4, rfl, rfl, rfl⟩ := open_bool Try.underlying4 (hval 4 4 v4 rfl rfl) h4
  clear hA0 hval0
  simp only [List.append_nil] at hW'
  refine (walk W x0 y0 a1 a2 a3 a4 wx0 wy0 w1 w2 w3).mono fun e W' ⟨he, hg⟩ => ?_
  subst he
  exact ⟨_, rfl, post_gr (pa := []) (pv := []) hW' (fun _ _ _ => (trodAll_cons_mk (shut_bool Try.underlying4 _) trodAll_mk0)) (fun sp _ => (trodAll_cons_mk (s0 _ _) (trodAll_cons_mk (shut_int Try.underlying3 w1) (trodAll_cons_mk (shut_int Try.underlying3 w2) (trodAll_cons_mk (shut_int Try.underlying3 w3) (trodAll_cons_mk (shut_bool Try.underlying4 a4) trodAll_mk0)))))) (fun _ _ => rfl) rfl hg⟩

theorem over : Rows.splitSameRow.holds Try.pinned (OpenSpec.ofChange Rows.splitSameSpec) :=
  OpenClaim.holds_of_wide 8 Try.f8 rfl rfl rfl rfl rfl rfl rfl ⟨rfl, rfl, rfl, rfl, rfl⟩ rfl rfl rfl rfl rfl (by kernel_rfl) Try.func8 (by kernel_rfl)
    (of_decide_eq_true (by kernel_rfl)) (by unfold Func.isWrapper; first | (rw [if_pos (by decide +kernel)]; kernel_rfl) | (rw [if_neg (by decide +kernel)]; exact ⟨rfl, rfl⟩))
    (fun os started H enc _ => lifted os started H enc)

/-- THE STATEMENT -/
theorem proved : Rows.SplitSameSaid :=
  over
#print axioms proved
end Go.Proofs.Ytmhcbphkkcmecaa.splitSame
