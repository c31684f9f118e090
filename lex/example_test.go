package lex_test

import (
	"fmt"

	"corral/api"
	"corral/lex"
)

// Example reads a text, and one in which there is a byte at which no word begins.
func Example() {
	l, _, _ := lex.Read("if a1 == 10\n{ out -1; }")
	for _, p := range l {
		fmt.Printf("%c %s %d\n", p.Kind, p.Text, p.V)
	}
	l, at, e := lex.Read("out 007;")
	fmt.Println(len(l), at, e == api.ErrForm, lex.Key("out"), lex.Key("a1"))
	// Output:
	// k if 0
	// n a1 0
	// s == 0
	// 0 10 10
	// s { 0
	// k out 0
	// s - 0
	// 0 1 1
	// s ; 0
	// s } 0
	// 0 4 true true false
}
