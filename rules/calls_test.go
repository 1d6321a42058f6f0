// Package rules tests what holds of all layers together: the calls that they have, and the rules of the language that they keep to.
package rules

import (
	"headroom/api"
	"headroom/arc"
	"headroom/budget"
	"headroom/call"
	"headroom/choose"
	"headroom/circle"
	"headroom/cx"
	"headroom/dft"
	"headroom/fft"
	"headroom/flip"
	"headroom/four"
	"headroom/gain"
	"headroom/near"
	"headroom/plan"
	"headroom/power"
	"headroom/real"
	"headroom/roots"
	"headroom/round"
	"headroom/sat"
	"headroom/scan"
	"headroom/single"
	"headroom/split"
	"headroom/text"
	"headroom/two"
	"headroom/window"
)

// The calls that the chapters list, with their signatures: a call that is missing, or is of another form, does not build.
var (
	_ func(x, s, mode int) (int, api.Errno) = round.Shift
	_ func(x, s int) (int, api.Errno)       = round.Up
	_ func(x, d int) (int, api.Errno)       = round.Div

	_ func(format int) (int, api.Errno)              = sat.Bits
	_ func(x, format int) (int, bool, api.Errno)     = sat.Clamp
	_ func(a, b, format int) (int, bool, api.Errno)  = sat.Add
	_ func(a, b, format int) (int, bool, api.Errno)  = sat.Sub
	_ func(a, format int) (int, bool, api.Errno)     = sat.Neg
	_ func(a, b, f, mode int) (int, bool, api.Errno) = sat.Mul

	_ func(a, b api.Cx) (api.Cx, api.Errno)           = cx.Sum
	_ func(a, b api.Cx) (api.Cx, api.Errno)           = cx.Less
	_ func(a, b api.Cx) (api.Cx, api.Errno)           = cx.Times
	_ func(a api.Cx) (api.Cx, api.Errno)              = cx.Conj
	_ func(a api.Cx, n int) (api.Cx, api.Errno)       = cx.Turn
	_ func(a api.Cx, s, mode int) (api.Cx, api.Errno) = cx.Shift
	_ func(a api.Cx) (uint64, api.Errno)              = cx.Norm

	_ func(n int) (int, api.Errno)   = arc.Arc
	_ func() int                     = arc.Quarter
	_ func(n int) ([]int, api.Errno) = arc.Terms

	_ func() []int                            = gain.Angles
	_ func(x, z int) (api.Cx, int, api.Errno) = gain.Run
	_ func() int                              = gain.Gain
	_ func() int                              = gain.Inverse

	_ func(z int) (api.Cx, api.Errno)      = circle.Point
	_ func(k, log int) (api.Cx, api.Errno) = circle.Eighth

	_ func(log, k, bits int) (api.Cx, api.Errno)  = roots.Root
	_ func(log, bits int) ([]api.Cx, api.Errno)   = roots.Table
	_ func(log, format int) ([]api.Cx, api.Errno) = roots.Twiddles

	_ func(i, log int) (int, api.Errno)      = flip.Bits
	_ func(log int) ([]int, api.Errno)       = flip.Row
	_ func(x []api.Cx) ([]api.Cx, api.Errno) = flip.Flip
	_ func(n int) (int, api.Errno)           = flip.Log

	_ func(x []api.Cx) (int, api.Errno)                   = scan.Max
	_ func(m, format int) (int, api.Errno)                = scan.Room
	_ func(kernel, m, format int) (int, api.Errno)        = scan.Pre
	_ func(x []api.Cx, s, mode int) ([]api.Cx, api.Errno) = scan.Shifted

	_ func(x, w []api.Cx, h, bits, s, mode int, inverse bool) ([]api.Cx, api.Errno) = two.Pass
	_ func(a, b, w api.Cx, bits, s, mode int) (api.Cx, api.Cx, api.Errno)           = two.Pair

	_ func(x, w []api.Cx, h, bits, s, mode int, inverse bool) ([]api.Cx, api.Errno) = four.Pass
	_ func(a, w [4]api.Cx, bits, s, mode int, inverse bool) ([4]api.Cx, api.Errno)  = four.Quad

	_ func(x []api.Cx, format, mode int, inverse bool) ([]api.Cx, api.Errno)              = split.Run
	_ func(u, v, y, z, w, w3 api.Cx, bits, mode int, inverse bool) ([4]api.Cx, api.Errno) = split.Join

	_ func(p api.Plan) api.Errno               = plan.Check
	_ func(p api.Plan) ([]api.Pass, api.Errno) = plan.Passes
	_ func() []api.Plan                        = plan.Every

	_ func(p api.Plan) (int, api.Errno)               = budget.Start
	_ func(e, kernel, scale, s int) (int, api.Errno)  = budget.Step
	_ func(p api.Plan, shifts []int) (int, api.Errno) = budget.Of
	_ func(p api.Plan) ([]int, api.Errno)             = budget.Fixed

	_ func(x []api.Cx, p api.Plan) (api.Block, api.Errno)            = fft.Run
	_ func(x []api.Cx, p api.Plan) (api.Block, api.Errno)            = fft.Ready
	_ func(b api.Block, p api.Plan, pass int) (api.Block, api.Errno) = fft.Next

	_ func(x []api.Cx, k int, inverse bool) (api.Cx, api.Errno) = dft.Bin
	_ func(x []api.Cx, inverse bool) ([]api.Cx, api.Errno)      = dft.All
	_ func(x []api.Cx) (int, api.Errno)                         = dft.Slack

	_ func(x []api.Cx, p api.Plan) (int, api.Errno)               = near.Up
	_ func(x []api.Cx, p api.Plan, b api.Block) (int, api.Errno)  = near.Far
	_ func(x []api.Cx, p api.Plan, b api.Block) (int, api.Errno)  = near.Bound
	_ func(x []api.Cx, p api.Plan, b api.Block) (bool, api.Errno) = near.Within

	_ func(x []int) ([]api.Cx, api.Errno)                  = real.Pack
	_ func(x []int, p api.Plan) (api.Block, api.Errno)     = real.Bins
	_ func(b api.Block, p api.Plan) (api.Block, api.Errno) = real.Untangle
	_ func(p api.Plan, shifts []int) (int, api.Errno)      = real.Loss

	_ func(kind, log, bits int) ([]int, api.Errno)             = window.Table
	_ func(x []int, kind, format, mode int) ([]int, api.Errno) = window.Apply
	_ func(kind, log, bits int) (int, api.Errno)               = window.Sum

	_ func(x []api.Cx) ([]uint64, api.Errno)       = power.Spectrum
	_ func(x []api.Cx) (uint64, uint64, api.Errno) = power.Total
	_ func(x []api.Cx) (int, api.Errno)            = power.Peak

	_ func(x []int, k int) (api.Cx, api.Errno) = single.Bin
	_ func(x []int, k int) ([]int, api.Errno)  = single.States

	_ func(log int) ([]int, api.Errno)                                      = choose.Losses
	_ func(format, log, mode, most int, inverse bool) (api.Plan, api.Errno) = choose.Plan
	_ func(p api.Plan, most int) (bool, api.Errno)                          = choose.Meets

	_ func(dst, x, w []api.Cx, p api.Plan) api.Errno                        = call.Shape
	_ func(dst, x, w []api.Cx, p api.Plan) ([]api.Cx, int, bool, api.Errno) = call.Into
	_ func(dst []api.Cx, calls []api.Call) ([]api.Cx, []api.Errno)          = call.Script

	_ func(s string) (api.Plan, int, api.Errno) = text.Parse
	_ func(p api.Plan) (string, api.Errno)      = text.Print
	_ func(s string) ([]string, []int)          = text.Words
)
