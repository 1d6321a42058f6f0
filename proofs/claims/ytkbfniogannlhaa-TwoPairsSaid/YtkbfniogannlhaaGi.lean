/- A complex number of whole numbers. -/
import Derived.Test.YtkbfniogannlhaaMath
namespace Go.Proofs.Ytkbfniogannlhaa
set_option linter.unusedVariables false

/-- A complex number of whole numbers. -/
structure Gi where
  re : Int
  im : Int

def Gi.conj (a : Gi) : Gi := ⟨a.re, -a.im⟩
def Gi.swap (a : Gi) : Gi := ⟨a.im, a.re⟩
def Gi.mul (a b : Gi) : Gi := ⟨a.re * b.re - a.im * b.im, a.re * b.im + a.im * b.re⟩
/-- Times i, q times. -/
def Gi.turn (q : Int) (a : Gi) : Gi :=
  if q % 4 = 0 then a else if q % 4 = 1 then ⟨-a.im, a.re⟩ else if q % 4 = 2 then ⟨-a.re, -a.im⟩ else ⟨a.im, -a.re⟩

theorem Gi.ext2 {a b : Gi} (h1 : a.re = b.re) (h2 : a.im = b.im) : a = b := by cases a; cases b; simp_all

end Go.Proofs.Ytkbfniogannlhaa
