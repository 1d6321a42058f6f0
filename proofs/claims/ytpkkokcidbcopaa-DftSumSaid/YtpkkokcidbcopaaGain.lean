/- What reference 5's functions answer. · What reference 5's RunOf, Run, Gain, Inverse and May answer. -/
import Derived.Test.YtpkkokcidbcopaaRef04
import Derived.Test.YtpkkokcidbcopaaRot
import Derived.Test.YtpkkokcidbcopaaCxs
namespace Go.Proofs.Ytpkkokcidbcopaa
open Go.ChangeShapes Go.WideShapes Go.ChangeAt Go.RowKit
set_option linter.unusedVariables false
set_option maxRecDepth 100000

/-- The steps' angles, in order. -/
def angL : List Int := (List.range 45).map (fun j => (ang j : Int))
theorem angL_len : angL.length = 45 := by decide +kernel
theorem angL_at (j : Nat) (h : j < 45) : angL[j]? = some (ang j : Int) := by
  unfold angL
  rw [List.getElem?_map, List.getElem?_range h]; rfl

/-- A turn's value. -/
def TV (s : Tn) : Value := .agg #[.int .i64 s.re, .int .i64 s.im, .int .i64 s.left]

end Go.Proofs.Ytpkkokcidbcopaa

namespace Go.Proofs.Ytpkkokcidbcopaa
open Go.ChangeShapes Go.WideShapes Go.ChangeAt Go.RowKit
set_option linter.unusedVariables false

theorem trun_succ (k : Nat) (s : Tn) : trun (k + 1) s = tstep k (trun k s) := rfl

theorem field_Re (re im : Int) (w : World) : (Instr.field 24 (.agg #[.int .i64 re, .int .i64 im]) 0).run Try.prog w = .ok (.int .i64 re) w := by kernel_rfl
theorem field_Im (re im : Int) (w : World) : (Instr.field 24 (.agg #[.int .i64 re, .int .i64 im]) 1).run Try.prog w = .ok (.int .i64 im) w := by kernel_rfl

/-- A long division of 2^112, bit by bit: what is left, and the quotient. -/
def dv : Nat → Nat × Nat
  | 0 => (72057594037927936, 0)
  | k + 1 => if 118661582157481174 ≤ 2 * (dv k).1 then (2 * (dv k).1 - 118661582157481174, 2 * (dv k).2 + 1) else (2 * (dv k).1, 2 * (dv k).2)
set_option maxRecDepth 100000 in
theorem dv_all : (List.range 57).all (fun k => Nat.ble (dv k).1 118661582157481174 && Nat.ble (dv k).2 72057594037927936) = true := by decide +kernel
set_option maxRecDepth 100000 in
theorem dv_56 : (dv 56).2 = 43757185469210200 := by decide +kernel

end Go.Proofs.Ytpkkokcidbcopaa
