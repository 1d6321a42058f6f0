import Derived.Test.YtablflakcaimmaaGreatFftPassesS38
namespace Go.Proofs.YtablflakcaimmaaGreat
section
open Go.ChangeShapes Go.WideShapes Go.ChangeAt Go.RowKit
set_option linter.unusedVariables false
set_option maxRecDepth 100000
def oneB (fo : Int) : Int := if fo = 0 then 32768 else 2147483648
def whyB (fo lo ke sc mo : Int) (op : Bool) (xs : List Gi) : Int := if okF fo lo ke sc mo = true then (if (xs.length : Int) = 2 ^ lo.toNat then (if partsB (-(oneB fo)) (if op = true then oneB fo else oneB fo - 1) xs = true then 0 else 2) else 3) else 4
theorem fb_of {fo lo ke sc mo : Int} (h : okF fo lo ke sc mo = true) : ∃ b, FB fo b (oneB fo) ∧ b = (if fo = 0 then 15 else 31) := by
 have hf := okF_iff.1 h
 have hc : fo = 0 ∨ fo = 1 := by omega
 rcases hc with rfl | rfl
 ·exact ⟨15, .inl ⟨rfl, rfl, rfl⟩, rfl⟩
 ·exact ⟨31, .inr ⟨rfl, rfl, rfl⟩, rfl⟩
theorem plF_of {fo lo ke sc mo : Int} (h : okF fo lo ke sc mo = true) : PlF fo (if fo = 0 then 15 else 31) (oneB fo) lo ke sc mo lo.toNat (2 ^ lo.toNat) (if fo = 0 then 13 else 29) := by
 have hf := okF_iff.1 h
 obtain ⟨b, hb, rfl⟩ := fb_of h
 refine ⟨hb, h, by omega, rfl, ?_⟩
 split <;> rfl
theorem why_yes {fo lo ke sc mo : Int} {op : Bool} {xs : List Gi} (h : whyB fo lo ke sc mo op xs = 0) : okF fo lo ke sc mo = true ∧ xs.length = 2 ^ lo.toNat ∧ partsB (-(oneB fo)) (if op = true then oneB fo else oneB fo - 1) xs = true := by
 unfold whyB at h
 by_cases h1 : okF fo lo ke sc mo = true
 ·rw [if_pos h1] at h
  by_cases h2 : (xs.length : Int) = 2 ^ lo.toNat
  ·rw [if_pos h2] at h
   by_cases h3 : partsB (-(oneB fo)) (if op = true then oneB fo else oneB fo - 1) xs = true
   ·exact ⟨h1, Int.ofNat.inj (by rw [Int.ofNat_eq_natCast, Int.ofNat_eq_natCast, h2]; simp), h3⟩
   ·rw [if_neg h3] at h
    cases h
  ·rw [if_neg h2] at h
   cases h
 ·rw [if_neg h1] at h
  cases h
theorem may15_c (v : Value) (fo lo ke sc mo : Int) (iv op : Bool) (xs : List Gi) (w : World) (hv : CxsAt w v xs) :
 Calls Tryz.prog 10 #[v, .agg #[.int .i64 fo, .int .i64 lo, .int .i64 ke, .int .i64 sc, .int .i64 mo, .bool iv], .bool op] w fun e w' => e = .returned (.int .i64 (whyB fo lo ke sc mo op xs)) ∧ Gr w w' := by
 obtain ⟨p, cap, rfl⟩ := hv.len
 unfold whyB
 have HC := Lib.hid fun W => refCheck_c fo lo ke sc mo iv _ rfl W
 by_cases hk : okF fo lo ke sc mo = true
 ·rw [if_pos hk]
  rw [hk] at HC
  have hf := okF_iff.1 hk
  obtain ⟨b, hb, _⟩ := fb_of hk
  have HP := Lib.hid fun W => calls_gr (pow_c lo (by omega) (by omega) W)
  have HO := Lib.hid fun W => calls_gr (rone_c fo b (oneB fo) hb W)
  have hq : 0 ≤ oneB fo ∧ oneB fo ≤ 2147483648 := by unfold oneB; split <;> omega
  by_cases hn : (xs.length : Int) = 2 ^ lo.toNat
  ·rw [if_pos hn]
   have hn2 : ((xs.length : Int) == 2 ^ lo.toNat) = true := by simp [hn]
   have HA := fun h => Lib.hid fun W (g : CxsAt W (.slice p xs.length cap) xs) => parts15_c (.slice p xs.length cap) xs (-(oneB fo)) h W g
   cases op
   ·simp only [Bool.false_eq_true, if_false]
    have HA1 := HA (oneB fo - 1)
    cases hp : partsB (-(oneB fo)) (oneB fo - 1) xs
    ·rw [hp] at HA1
     exact may15_cn p xs.length cap xs fo lo ke sc mo _ (oneB fo) iv hn2 hq.1 hq.2 HC HP HO HA1 w hv
    ·rw [hp] at HA1
     exact may15_cy p xs.length cap xs fo lo ke sc mo _ (oneB fo) iv hn2 hq.1 hq.2 HC HP HO HA1 w hv
   ·simp only [if_true]
    have HA1 := HA (oneB fo)
    cases hp : partsB (-(oneB fo)) (oneB fo) xs
    ·rw [hp] at HA1
     exact may15_on p xs.length cap xs fo lo ke sc mo _ (oneB fo) iv hn2 hq.1 hq.2 HC HP HO HA1 w hv
    ·rw [hp] at HA1
     exact may15_oy p xs.length cap xs fo lo ke sc mo _ (oneB fo) iv hn2 hq.1 hq.2 HC HP HO HA1 w hv
  ·rw [if_neg hn]
   exact may15_size p xs.length cap fo lo ke sc mo _ iv op (by simp [hn]) HC HP w
 ·rw [if_neg hk]
  have hk' : okF fo lo ke sc mo = false := by simpa using hk
  rw [hk'] at HC
  exact may15_plan _ fo lo ke sc mo iv op HC w
def FftSaid (F : FuncId) (V : Int → Int → Int → Int → Int → Bool → List Gi → BV) : Prop :=
 (∀ (fo lo ke sc mo : Int) (iv : Bool) (v : Value) (xs : List Gi), whyB fo lo ke sc mo false xs = 0 → ∀ W, CxsAt W v xs → Calls Tryz.prog F #[v, .agg #[.int .i64 fo, .int .i64 lo, .int .i64 ke, .int .i64 sc, .int .i64 mo, .bool iv]] W fun e w' =>
  ∃ vx vs, e = .returned (.tuple #[.agg #[vx, .int .i64 (V fo lo ke sc mo iv xs).ex, .bool (V fo lo ke sc mo iv xs).sat, vs], .int .i64 0]) ∧ CxsAt w' vx (V fo lo ke sc mo iv xs).X ∧ NumsAt w' vs (V fo lo ke sc mo iv xs).sh ∧ Gr W w') ∧
 (∀ (fo lo ke sc mo : Int) (iv : Bool) (v : Value) (xs : List Gi) (y : Int), whyB fo lo ke sc mo false xs = y → y ≠ 0 → ∀ W, CxsAt W v xs → Calls Tryz.prog F #[v, .agg #[.int .i64 fo, .int .i64 lo, .int .i64 ke, .int .i64 sc, .int .i64 mo, .bool iv]] W fun e w' =>
  e = .returned (.tuple #[.agg #[.slice none 0 0, .int .i64 0, .bool false, .slice none 0 0], .int .i64 y]) ∧ Gr W w')
def runF (fo lo ke sc mo : Int) (iv : Bool) (xs : List Gi) : BV := runB15 ke lo sc mo (oneB fo) iv lo.toNat (if fo = 0 then 13 else 29) (tw (2 ^ lo.toNat) (if fo = 0 then 13 else 29)) xs
def readyF (fo lo ke sc mo : Int) (iv : Bool) (xs : List Gi) : BV := readyB ke sc mo (oneB fo) lo.toNat xs
end
end Go.Proofs.YtablflakcaimmaaGreat
