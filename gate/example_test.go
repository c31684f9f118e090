package gate_test

import (
	"fmt"

	"corral/gate"
	"corral/mem"
	"corral/step"
)

// Example has a sandbox that asks for replies, sums up three of its bytes, and is over.
func Example() {
	m, _ := mem.New(512)
	m.Set(128, 128, true)
	m.Write(192, []byte("abc"))
	c, w := step.Cpu{Base: 128, Size: 128}, gate.World{Replies: []uint32{4294967295}}
	c, w = gate.Do(c, m, w, 2)
	c, w = gate.Do(c, m, w, 2)
	c.R[0], c.R[1] = 192, 3
	fmt.Println(gate.Owns(c, 192, 3), gate.Owns(c, 191, 3))
	c, w = gate.Do(c, m, w, 3)
	fmt.Printf("%08x\n", c.R[0])
	c.R[0] = 7
	c, w = gate.Do(c, m, w, 0)
	fmt.Println(w.Over, w.Code)
	fmt.Print(gate.Text(w.Trace))
	// Output:
	// true false
	// 1a47e90b
	// true 7
	// 2 -1
	// 2 0
	// 3 440920331
	// 0 7
}
