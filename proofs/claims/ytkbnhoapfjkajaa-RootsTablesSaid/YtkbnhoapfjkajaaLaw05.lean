/- The helpers of law 5. -/
import Derived.Test.YtkbnhoapfjkajaaGain1
import Derived.Test.YtkbnhoapfjkajaaBits
import Derived.Sort.QuietIn
namespace Go.Proofs.Ytkbnhoapfjkajaa
open Go.ChangeShapes Go.WideShapes Go.ChangeAt Go.RowKit
set_option linter.unusedVariables false

theorem square_nums (a b m : Nat) (hm : m = 256) (h0 : 5192296858534827628530496329220096 - 590295810358705651712 ≤ a * a + b * b) (h1 : a * a + b * b ≤ 5192296858534827628530496329220096 + 590295810358705651712) (p q : Nat) (hp : a * a = p) (hq : b * b = q) :
    281474976710656 - 256 ≤ p / 18446744073709551616 + q / 18446744073709551616 + (p % 18446744073709551616 + q % 18446744073709551616) / 18446744073709551616 ∧ p / 18446744073709551616 + q / 18446744073709551616 + (p % 18446744073709551616 + q % 18446744073709551616) / 18446744073709551616 ≤ 281474976710656 + 256 := by
  rw [hp, hq] at h0 h1
  omega

/-- What the code's functions answer, as the law asks it. -/
def AngIs (W : World) : Prop := Calls Try.prog 87 #[] W fun e w' => ∃ v, e = .returned v ∧ IntsAt w' v angL ∧ Gr W w'
def GainIs (W : World) : Prop := Calls Try.prog 85 #[] W fun e w' => e = .returned (.int .i64 118661582157481174) ∧ Gr W w'
def InvIs (W : World) : Prop := Calls Try.prog 78 #[] W fun e w' => e = .returned (.int .i64 43757185469210200) ∧ Gr W w'

end Go.Proofs.Ytkbnhoapfjkajaa
