package box_test

import (
	"fmt"

	"corral/api"
	"corral/box"
	"corral/gate"
	"corral/image"
	"corral/mem"
	"corral/scan"
	"corral/slab"
)

// Example has a sandbox that asks for a reply, yields, tells the reply, and is over with its first data.
func Example() {
	code := scan.Pad([]api.Ins{{Op: api.Gate, Imm: 2}, {Op: api.Gate, Imm: 4}, {Op: api.Gate, Imm: 1}, {Op: api.MaskD, A: 3}, {Op: api.Load, A: 0, B: 3}, {Op: api.Gate, Imm: 0}})
	m, _ := mem.New(1024)
	r, _ := slab.Take(nil, m.Size(), 256)
	b, e := box.New(m, r, image.Image{Code: code, Data: []byte{7}}, []uint32{5})
	fmt.Println(e, b.C.Pc, b.Is == box.Ready)
	for b.Is == box.Ready {
		var n int
		b, n = box.Slice(m, b, 100)
		fmt.Println(n, len(b.W.Trace))
	}
	fmt.Println(b.Is == box.Over, b.W.Code)
	fmt.Print(gate.Text(b.W.Trace))
	fmt.Println(box.Clear(m, r), m.There(256))
	// Output:
	// 0 256 true
	// 2 1
	// 4 3
	// true 7
	// 2 5
	// 1 5
	// 0 7
	// 0 false
}
