/- What reference 14 answers of a plan that may be: its shifts, whether some are a plan's, the loss. -/
import Derived.Test.YtmjghakodgihiaaRef14b
namespace Go.Proofs.Ytmjghakodgihiaa
open Go.ChangeShapes Go.WideShapes Go.ChangeAt Go.RowKit
set_option linter.unusedVariables false
set_option maxRecDepth 100000

theorem lostB_zero (sc ke lo : Int) (ls : List Int) : lostB sc ke lo ls 0 = startB sc := rfl
theorem lostB_next (sc ke lo : Int) (ls : List Int) (j : Nat) (x : Gi) (l : Int) (hx : (passL ke lo)[j]? = some x) (hl : ls[j]? = some l) : lostB sc ke lo ls (j + 1) = stepB (lostB sc ke lo ls j) x.re sc l := by
  have h1 : j < (passL ke lo).length := (List.getElem?_eq_some_iff.1 hx).1
  have h2 : j < ls.length := (List.getElem?_eq_some_iff.1 hl).1
  unfold lostB
  rw [take_snoc hx, take_snoc hl]
  exact runB_snoc sc x l _ _ _ (by rw [List.length_take, List.length_take]; omega)
theorem lostB_all (sc ke lo : Int) (ls : List Int) (h : ls.length = (passL ke lo).length) : ofB sc ke lo ls = lostB sc ke lo ls (passL ke lo).length + (if ke = 2 then 224 * lo else 0) := by
  unfold ofB lostB
  rw [List.take_length, ← h, List.take_length]

theorem fixed14_c (fo lo ke sc mo : Int) (iv : Bool) (hok : okF fo lo ke sc mo = true) (w : World) :
    Calls Try.prog 17 #[.agg #[.int .i64 fo, .int .i64 lo, .int .i64 ke, .int .i64 sc, .int .i64 mo, .bool iv]] w fun e w' => ∃ v, e = .returned v ∧ NumsAt w' v ((passL ke lo).map fun x => topB sc x.re) ∧ Gr w w' := by
  have hf := okF_iff.1 hok
  exact fixed14_of fo lo ke sc mo iv (passL ke lo) (passL_len6 ke lo (by omega) (by omega) (by omega) (by omega)) (Lib.hid fun W => refPasses_new fo lo ke sc mo iv hok W) (Lib.hid fun k W => top14_c fo lo ke sc mo k iv W) w

theorem shifts14_c (fo lo ke sc mo : Int) (iv : Bool) (hok : okF fo lo ke sc mo = true) (sp : Option Addr) (cl : Nat) (ls : List Int) (hls : ls.length ≤ 10) (w : World) (hl : NumsAt w (.slice sp ls.length cl) ls) :
    Calls Try.prog 18 #[.agg #[.int .i64 fo, .int .i64 lo, .int .i64 ke, .int .i64 sc, .int .i64 mo, .bool iv], .slice sp ls.length cl] w fun e w' => e = .returned (.bool (fitsB sc (passL ke lo) ls)) ∧ Gr w w' := by
  have hf := okF_iff.1 hok
  exact shifts14_of fo lo ke sc mo iv (passL ke lo) sp cl ls (passL_len6 ke lo (by omega) (by omega) (by omega) (by omega)) hls (Lib.hid fun W => refPasses_new fo lo ke sc mo iv hok W) (Lib.hid fun k W => top14_c fo lo ke sc mo k iv W) w hl

theorem of14_c (fo lo ke sc mo : Int) (iv : Bool) (hok : okF fo lo ke sc mo = true) (sp : Option Addr) (cl : Nat) (ls : List Int) (hf : fitsB sc (passL ke lo) ls = true) (w : World) (hl : NumsAt w (.slice sp ls.length cl) ls) :
    Calls Try.prog 19 #[.agg #[.int .i64 fo, .int .i64 lo, .int .i64 ke, .int .i64 sc, .int .i64 mo, .bool iv], .slice sp ls.length cl] w fun e w' => e = .returned (.int .i64 (ofB sc ke lo ls)) ∧ Gr w w' := by
  have ho := okF_iff.1 hok
  have hlen := fitsB_len sc _ ls hf
  have hn := fun j => lostB_nums sc ke lo ls j (by omega) (by omega) (by omega) (by omega) hf
  refine of14_of fo lo ke sc mo (224 * lo) (ofB sc ke lo ls) iv (passL ke lo) sp cl ls (lostB sc ke lo ls) (passL_len6 ke lo (by omega) (by omega) (by omega) (by omega)) hlen (Lib.hid fun W => refPasses_new fo lo ke sc mo iv hok W)
    (Lib.hid fun W => start14_c fo lo ke sc mo iv W) (Lib.hid fun j x l hx hll W => ?_) ?_ w hl
  · have hfit := fitB_iff.1 (fitsB_at sc _ ls j x l hf hx hll)
    have ht := topB_le sc x.re
    have hk := passL_kern ke lo x (List.mem_of_getElem? hx)
    have hb := hn j
    rw [lostB_next sc ke lo ls j x l hx hll]
    exact calls_gr (step14_c _ _ _ _ (mayB_iff.2 ⟨by omega, hk, by omega, by omega⟩) W)
  · have hb := hn (passL ke lo).length
    have ha := lostB_all sc ke lo ls hlen
    by_cases hk : ke = 2
    · rw [if_pos hk] at ha ⊢
      rw [ha]
      exact ⟨IntWalk.wrap64_in _ ⟨by omega, by omega⟩, IntWalk.wrap64_in _ ⟨by omega, by omega⟩⟩
    · rw [if_neg hk] at ha ⊢
      omega

end Go.Proofs.Ytmjghakodgihiaa
