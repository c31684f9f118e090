package parse

import (
	"strings"
	"testing"
)

// 16.2, ErrSize

// TestLong has texts of more than 4000 bytes, which aren't read, whatever stands in them.
func TestLong(t *testing.T) {
	checkGreat(t, strings.Repeat(" ", 4001))
	checkGreat(t, strings.Repeat("?", 4001))
	checkGreat(t, strings.Repeat("}", 4001))
	checkGreat(t, "out 1;"+strings.Repeat(" ", 3995))
	checkGreat(t, strings.Repeat("var a;\n", 1000))
	checkGreat(t, strings.Repeat("a ", 1<<20))
	checkFits(t, "out 1;"+strings.Repeat(" ", 3994))
}

// TestCells has arrs of 1000 cells, and of more.
func TestCells(t *testing.T) {
	for _, n := range []string{"0", "1", "33", "999", "1000"} {
		checkFits(t, "arr a["+n+"];")
		checkFits(t, "arr b[1];arr a["+n+"];out 1;")
	}
	for _, n := range []string{"1001", "1002", "1024", "2000", "65536", "2147483647", "2147483648", "2147484648", "4294966296", "4294967295"} {
		checkGreat(t, "arr a["+n+"];")
		checkGreat(t, "arr b[1];arr a["+n+"];arr c[2];")
		checkGreat(t, "arr a["+n+"];out 1;")
	}
	checkFits(t, "out 1001;")
	checkFits(t, "a[1001] = 4294967295;")
}

// TestNodes has programs of 1000 nodes, and of 1001.
func TestNodes(t *testing.T) {
	for _, x := range []struct {
		text  string
		nodes int
	}{
		{strings.Repeat("out 1;", 499), 999},
		{strings.Repeat("out 1;", 498) + "if 1{}", 1000},
		{strings.Repeat("out 1;", 498) + "out -1;", 1000},
		{strings.Repeat("if 1{}", 333), 1000},
		{strings.Repeat("while a{}", 333), 1000},
		{strings.Repeat("exit in;", 300) + strings.Repeat("if a{}else{}", 99) + "out -in;", 1000},
		{"a=1" + strings.Repeat("+1", 498) + ";out 1;", 1001},
		{"a=1" + strings.Repeat("+1", 498) + ";", 999},
		{"a=1" + strings.Repeat("+1", 497) + "*-1;", 1000},
		{"a=-1" + strings.Repeat("+1", 498) + ";", 1000},
		{strings.Repeat("a[1]=a[2];", 249), 997},
		{strings.Repeat("a[1]=a[2];", 249) + "if 1{}", 1000},
		{strings.Repeat("a[1]=a[2];", 249) + "if-1{}", 1001},
		{strings.Repeat("a[1]=a[2];", 250), 1001},
		{strings.Repeat("if 1{}", 332) + "if 1{}else{}", 1001},
		{strings.Repeat("out 1;", 500), 1001},
		{strings.Repeat("if 1{}", 333) + "out 1;", 1002},
		{"a=1" + strings.Repeat("*1", 1900) + ";", 3803},
		{strings.Repeat("out-1;", 666), 1999},
		{strings.Repeat("if 1{}", 666), 1999},
	} {
		if x.nodes > 1000 {
			checkGreat(t, x.text)
		} else if y := checkFits(t, x.text); len(y.Nodes) != x.nodes || y.Body != x.nodes-1 {
			t.Errorf("Read(%q) has %d nodes, and Body %d", short(x.text), len(y.Nodes), y.Body)
		}
	}
	checkFits(t, strings.Repeat("var a;", 600)+strings.Repeat("x=0;", 99)) // declarations are no nodes
}

// nest puts so many of what stands around something around it.
func nest(ahead, inner, behind string, n int) string {
	return strings.Repeat(ahead, n) + inner + strings.Repeat(behind, n)
}

// TestDeep has 100 expressions, values and statements one within another, and 101: a statement, its expression, and its value are three; each of what is nested adds some.
func TestDeep(t *testing.T) {
	for _, x := range []struct {
		what, text string
		deep       int
	}{
		{"Negs", "out " + nest("-", "1", "", 97) + ";", 100},
		{"Negs", "out " + nest("-", "1", "", 98) + ";", 101},
		{"Negs in another statement", "a=" + nest("-", "in", "", 97) + ";", 100},
		{"Negs in another statement", "a=" + nest("-", "in", "", 98) + ";", 101},
		{"brackets", "out " + nest("(", "1", ")", 48) + ";", 99},
		{"brackets", "out " + nest("(", "-1", ")", 48) + ";", 100},
		{"brackets", "out " + nest("(", "1", ")", 49) + ";", 101},
		{"brackets", "out -" + nest("(", "1", ")", 48) + ";", 100},
		{"brackets", "out --" + nest("(", "1", ")", 48) + ";", 101},
		{"brackets behind an operation", "out 1+2*" + nest("(", "-1", ")", 48) + "<3;", 100},
		{"brackets behind an operation", "out 1<2*" + nest("(", "--1", ")", 48) + ";", 101},
		{"brackets and operations", "out " + nest("(1+", "-1", ")", 48) + ";", 100},
		{"brackets and operations", "out " + nest("(1+", "1", ")", 49) + ";", 101},
		{"brackets and operations ahead", "out " + nest("(", "-1", "<2)", 48) + ";", 100},
		{"brackets and operations ahead", "out " + nest("(", "1", "<2)", 49) + ";", 101},
		{"ifs", nest("if 1{", "", "}", 98), 100},
		{"ifs", nest("if 1{", "", "}", 99), 101},
		{"ifs and a statement", nest("if 1{", "out 1;", "}", 97), 100},
		{"ifs and a statement", nest("if 1{", "out 1;", "}", 98), 101},
		{"ifs and a Put", nest("if 1{", "a[1]=1;", "}", 97), 100},
		{"ifs and a Put", nest("if 1{", "a[-1]=1;", "}", 97), 101},
		{"elses", nest("if 1{}else{", "", "}", 98), 100},
		{"elses", nest("if 1{}else{", "", "}", 99), 101},
		{"whiles", nest("while 1{", "", "}", 98), 100},
		{"whiles", nest("while 1{", "", "}", 99), 101},
		{"whiles and an Exit", nest("while 1{", "exit-1;", "}", 96), 100},
		{"whiles and an Exit", nest("while 1{", "exit-1;", "}", 97), 101},
		{"a while's expression", nest("while 1{", "while-1{}", "}", 96), 100},
		{"a while's expression", nest("while 1{", "while-1{}", "}", 97), 101},
		{"places of Gets", "out " + nest("a[", "1", "]", 48) + ";", 99},
		{"places of Gets", "out " + nest("a[", "-1", "]", 48) + ";", 100},
		{"places of Gets", "out " + nest("a[", "a", "]", 49) + ";", 101},
		{"a Put's place", nest("a[", "-1", "]", 49) + "=1;", 100},
		{"a Put's place", nest("a[", "1", "]", 50) + "=1;", 101},
		{"a Put's value", "a[1]=" + nest("a[", "-1", "]", 48) + ";", 100},
		{"a Put's value", "a[1]=" + nest("a[", "1", "]", 49) + ";", 101},
		{"all of them", nest("if 1{", nest("while a{", "out "+nest("-(", nest("a[", "-1", "]", 10), ")", 10)+";", "}", 20), "}", 26), 100},
		{"all of them", nest("if 1{", nest("while a{", "out "+nest("-(", nest("a[", "-1", "]", 10), ")", 10)+";", "}", 20), "}", 27), 101},
		{"many Negs", "out " + nest("-", "1", "", 990) + ";", 993},
		{"very many Negs", "out " + nest("-", "1", "", 3994) + ";", 3997},
		{"very many brackets", "out " + nest("(", "1", ")", 1997) + ";", 3997},
		{"very many places", "out " + nest("a[", "1", "]", 1300) + ";", 2603},
		{"very many blocks", nest("if 1{", "", "}", 660), 662},
	} {
		if x.deep > 100 {
			checkGreat(t, x.text)
		} else {
			checkFits(t, x.text)
		}
	}
}

// TestBeside holds that what stands beside something isn't within it.
func TestBeside(t *testing.T) {
	checkFits(t, strings.Repeat("out 1;", 499))
	checkFits(t, strings.Repeat("if 1{}", 333))
	checkFits(t, "out 1"+strings.Repeat("+1", 490)+";")
	checkFits(t, "out 1"+strings.Repeat("*in", 490)+";")
	checkFits(t, "out (1)"+strings.Repeat("-(1)", 490)+";")
	checkFits(t, "out a[1]"+strings.Repeat("+a[1]", 300)+";")
	checkFits(t, strings.Repeat("out "+nest("-", "1", "", 97)+";", 9))
	checkFits(t, strings.Repeat("out "+nest("(", "-1", ")", 48)+";", 30))
	checkFits(t, "out "+nest("-", "1", "", 97)+"+"+nest("-", "1", "", 97)+"*"+nest("(", "-1", ")", 48)+"<"+nest("a[", "-1", "]", 48)+";")
	checkFits(t, nest("if 1{", "", "}", 98)+nest("while 1{", "", "}", 98))
	checkFits(t, nest("if 1{", "", "}else{out 1;}", 97))
}

// TestFormFirst has texts that are beyond a limit, and have a word that can't stand there: that one is told, wherever it is.
func TestFormFirst(t *testing.T) {
	great := "arr a[1001];"
	checkFault(t, great+"5", 6)
	checkFault(t, great+"out 1", 8)
	checkFault(t, great+great+"}", 12)
	checkFault(t, "var in;"+great, 1)
	checkFault(t, "out 1;"+great, 3)
	checkFault(t, "arr a[1001]", 5)
	checkFault(t, "arr a[4294967295;", 4)
	checkFault(t, "arr a[4294967295", 4)
	checkFault(t, strings.Repeat("out 1;", 501)+"}", 1503)
	checkFault(t, strings.Repeat("out 1;", 501)+"out 1", 1505)
	checkFault(t, "5;"+strings.Repeat("out 1;", 501), 0)
	checkFault(t, "out 1 1;"+strings.Repeat("out 1;", 501), 2)
	checkFault(t, "a=1"+strings.Repeat("+1", 600)+"=1;", 1203)
	deep := "out " + nest("-", "1", "", 150) + ";"
	checkFault(t, deep+"else", 153)
	checkFault(t, "out 1 2;"+deep, 2)
	checkFault(t, "out "+nest("-", "1", "", 150), 152)
	checkFault(t, "out "+nest("(", "1", "", 150)+";", 152)
	checkFault(t, "out "+nest("(", "1", ")", 150)+");", 302)
	checkFault(t, "out "+nest("(", "1", ")", 1990), 3982)
	checkFault(t, "out "+strings.Repeat("(", 3996), 3997)
	checkFault(t, "out "+strings.Repeat("-", 3996), 3997)
	checkFault(t, strings.Repeat("if 1{", 800), 2400)
	checkFault(t, nest("if 1{", "", "}", 120)+"}", 480)
	checkGreat(t, great+deep+strings.Repeat("out 1;", 501))
}
