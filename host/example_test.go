package host_test

import (
	"fmt"

	"corral/api"
	"corral/gate"
	"corral/host"
	"corral/image"
	"corral/scan"
)

// Example has two sandboxes of one image, with unlike replies, that run by turns.
func Example() {
	code := scan.Pad([]api.Ins{{Op: api.Gate, Imm: 2}, {Op: api.Gate, Imm: 4}, {Op: api.Gate, Imm: 1}, {Op: api.Gate, Imm: 0}})
	b, _ := image.Lay(image.Image{Code: code})
	h, _ := host.New(2048)
	one, _ := h.Load(b, 128, []uint32{5})
	two, _ := h.Load(b, 256, []uint32{6})
	fmt.Println(one, two, h.Regions(), h.There(255), h.There(256))
	for range 2 {
		for _, id := range []int{one, two} {
			made, _ := h.Run(id, 100)
			s, _ := h.Box(id)
			fmt.Print(made, " steps:\n", gate.Text(s.W.Trace))
		}
	}
	fmt.Println(h.Kill(one), h.Kill(one), h.Regions(), h.There(255))
	_, e := h.Load(b, 100, nil)
	fmt.Println(e == api.ErrArg)
	// Output:
	// 0 1 [{128 128} {512 256}] true false
	// 2 steps:
	// 2 5
	// 2 steps:
	// 2 6
	// 2 steps:
	// 2 5
	// 1 5
	// 0 5
	// 2 steps:
	// 2 6
	// 1 6
	// 0 6
	// 0 8 [{512 256}] false
	// true
}
