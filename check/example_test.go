package check_test

import (
	"fmt"

	"corral/api"
	"corral/check"
)

// Example reads a right program, tells its vars and its arrs, and finds out why another one isn't right.
func Example() {
	t, _, e := check.Read("var a; arr b[2]; a = b[1];")
	fmt.Println(len(t.Nodes), e == api.OK)
	fmt.Println(check.Vars(t), check.Arrs(t))
	t, at, e := check.Read("a = 1;")
	fmt.Println(len(t.Nodes), at, e == api.ErrName)
	// Output:
	// 4 true
	// [a] [{b 2}]
	// 0 0 true
}
