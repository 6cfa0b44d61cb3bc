package world_test

import (
	"fmt"

	"seizin/api"
	"seizin/asm"
	"seizin/code"
	"seizin/image"
	"seizin/world"
)

// The example of README.md.
func Example() {
	program, _, _ := asm.Read("sys 1\nmul r0 r0 r0\nsys 0\nhalt\n")
	var b []byte
	for _, x := range program {
		b = append(b, code.Put(x)...)
	}
	x := api.Image{Heap: 1, Full: 4, Comps: []api.Comp{{Code: b, Data: 1}}}
	w, err := world.New(image.Put(x), 1000)
	if err != api.OK {
		fmt.Println(err)
		return
	}
	w.Step(api.Ev{Kind: api.EvInput, A: 0, N: 12})
	out := w.Step(api.Ev{Kind: api.EvRun, A: 0, N: 100})
	fmt.Println(out.N, out.Told[0].N, w.State(0) == api.Ended, w.Fuel())
	// Output: 4 144 true 996
}
