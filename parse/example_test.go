package parse_test

import (
	"fmt"

	"corral/api"
	"corral/parse"
)

// Example reads a program, shows it, and goes through its nodes; then it reads words that are no program.
func Example() {
	t, _, _ := parse.Read("var a; a = 1 + 2 * 3;")
	fmt.Println(parse.Show(t))
	fmt.Println(t.Decls, t.Body)
	for _, n := range t.Nodes {
		fmt.Println(n.Kind, n.A, n.B, n.C, n.Name, n.V, n.List)
	}
	t, at, e := parse.Read("a = ;")
	fmt.Println(len(t.Nodes), at, e == api.ErrForm)
	// Output:
	// var a ; a = ( 1 + ( 2 * 3 ) ) ;
	// [{a -1}] 6
	// 1 -1 -1 -1  1 []
	// 1 -1 -1 -1  2 []
	// 1 -1 -1 -1  3 []
	// 6 1 2 -1  5 []
	// 6 0 3 -1  3 []
	// 7 4 -1 -1 a 0 []
	// 13 -1 -1 -1  0 [5]
	// 0 2 true
}
