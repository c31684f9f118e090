package eval_test

import (
	"fmt"

	"corral/api"
	"corral/check"
	"corral/eval"
	"corral/gate"
)

// Example runs a program with replies; then one that traps, and one that never ends.
func Example() {
	t, _, _ := check.Read("var a; a = in; while 0 < a { out a * a; a = a - 2; } exit in;")
	r, e := eval.Run(t, []uint32{5, 8}, 1000)
	fmt.Print(gate.Text(r.Trace))
	fmt.Println(r.Ended, r.Trap, r.Code, r.Steps, e == api.OK)
	t, _, _ = check.Read("arr b[3]; out 7; out b[3];")
	r, _ = eval.Run(t, nil, 1000)
	fmt.Println(r.Trace, r.Ended, r.Trap, r.Steps)
	t, _, _ = check.Read("while 1 { }")
	r, _ = eval.Run(t, nil, 1000)
	fmt.Println(len(r.Trace), r.Ended, r.Steps)
	// Output:
	// 2 5
	// 1 25
	// 1 9
	// 1 1
	// 2 8
	// 0 8
	// true 0 8 45 true
	// [{1 7}] true 1 5
	// 0 false 1000
}
