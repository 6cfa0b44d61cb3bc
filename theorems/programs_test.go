// Package theorems_test holds machines and worlds of any images, and any scripts, to what has to be so of all of them.
package theorems_test

import (
	"math/rand"

	"seizin/api"
	"seizin/code"
)

// codeWords is how many instructions each compartment has: all have as many, so that the others' codes can be exchanged.
const codeWords = 160

// The data's granules: ahead of firstSlot stand the pairs, behind them slots for what is held.
const (
	firstSlot = 8
	slots     = 7
	sealSlot  = firstSlot + slots
	maxLinks  = firstSlot / 2
)

// writer writes a program, mostly of rows of instructions that do not trap.
type writer struct {
	r     *rand.Rand
	l     []api.Ins
	links int
	share int // 0: none, else what the first one permits
	wild  int // one row of so many is any instruction at all
}

func (w *writer) add(op int, parts ...int) {
	x := api.Ins{Op: op}
	for i, part := range []*int{&x.A, &x.B, &x.C} {
		if i < len(parts) {
			*part = parts[i]
		}
	}
	w.l = append(w.l, x)
}

func (w *writer) slot() int { return firstSlot + w.r.Intn(slots) }

// take asks for new memory, and keeps it.
func (w *writer) take() {
	w.add(api.Movi, 0, []int{0, 1, 16, 20, 40, 100, 129}[w.r.Intn(7)])
	w.add(api.Sys, api.SysAlloc)
	w.add(api.Stc, 0, 7, w.slot())
}

// giveBack frees what was kept.
func (w *writer) giveBack() {
	w.add(api.Ldc, 0, 7, w.slot())
	w.add(api.Sys, api.SysFree)
	if w.r.Intn(2) == 0 {
		w.add(api.Mov, 0, 1)
		w.add(api.Sys, api.SysOut)
	}
}

// hold has a register, or another slot, have what was kept.
func (w *writer) hold() {
	to := 2 + w.r.Intn(3)
	w.add(api.Ldc, to, 7, w.slot())
	if w.r.Intn(2) == 0 {
		w.add(api.Stc, to, 7, w.slot())
	}
}

// narrow keeps a part of what was kept.
func (w *writer) narrow() {
	w.add(api.Ldc, 2, 7, w.slot())
	w.add(api.Tag, 3, 2)
	w.add(api.Len, 4, 2)
	w.add(api.Mul, 3, 3, 4)
	w.add(api.Jz, 3, 5)
	w.add(api.Movi, 3, []int{0, 1, 1, 1}[w.r.Intn(4)])
	w.add(api.Bnd, 2, 2, 3)
	w.add(api.Prm, 2, 2, []int{27, 11, w.r.Intn(128)}[w.r.Intn(3)])
	w.add(api.Stc, 2, 7, w.slot())
}

// into stores one that was kept into the memory of another one, and takes it from there.
func (w *writer) into() {
	w.add(api.Ldc, 2, 7, w.slot())
	w.add(api.Ldc, 4, 7, w.slot())
	w.add(api.Len, 3, 2)
	w.add(api.Movi, 1, 15)
	w.add(api.Lt, 3, 1, 3)
	w.add(api.Tag, 1, 2)
	w.add(api.Mul, 3, 3, 1)
	w.add(api.Jz, 3, 3)
	w.add(api.Stc, 4, 2, 0)
	w.add(api.Ldc, 3, 2, 0)
}

// seal keeps one that is sealed, or unseals that.
func (w *writer) seal() {
	w.add(api.Ldc, 2, 7, sealSlot)
	w.add(api.Tag, 3, 2)
	w.add(api.Jz, 3, 6)
	w.add(api.Uns, 2, 2, 6)
	w.add(api.Stc, 2, 7, w.slot())
	w.add(api.Movi, 3, 0)
	w.add(api.Stc, 3, 7, sealSlot)
	w.add(api.Jmp, 0, 6)
	w.add(api.Ldc, 2, 7, w.slot())
	w.add(api.Tag, 3, 2)
	w.add(api.Jz, 3, 3)
	w.add(api.Sel, 2, 2, 6)
	w.add(api.Stc, 2, 7, sealSlot)
}

// enter calls another compartment.
func (w *writer) enter() {
	if w.links == 0 {
		return
	}
	i := w.r.Intn(w.links)
	w.add(api.Ldc, 2, 7, 2*i)
	w.add(api.Ldc, 3, 7, 2*i+1)
	w.add(api.Call, 2, 3)
}

// shared reads, and writes, a page that others have too.
func (w *writer) shared() {
	if w.share&api.Write != 0 {
		w.add(api.Stw, w.r.Intn(5), 5, w.r.Intn(8))
	}
	if w.share != 0 {
		w.add(api.Ldw, 0, 5, w.r.Intn(8))
		w.add(api.Sys, api.SysOut)
	}
}

// ask asks for anything else.
func (w *writer) ask() {
	w.add(api.Ldc, 0, 7, w.slot())
	n := []int{api.SysOut, api.SysIn, api.SysSize, api.SysYield, api.SysSweep}[w.r.Intn(5)]
	w.add(api.Sys, n)
	w.add(api.Sys, api.SysOut)
}

// anything is one instruction, of any kind.
func (w *writer) anything() {
	if w.wild == 0 || w.r.Intn(w.wild) > 0 {
		return
	}
	for {
		x := api.Ins{Op: w.r.Intn(api.MaxOp + 1), A: w.r.Intn(10), B: w.r.Intn(10), C: w.r.Intn(10)}
		if code.Right(x) {
			w.l = append(w.l, x)
			return
		}
	}
}

// rows writes as many rows as there is room for, up to a place.
func (w *writer) rows(end int) {
	kinds := []func(){w.take, w.take, w.take, w.giveBack, w.giveBack, w.hold, w.narrow, w.into, w.seal, w.enter, w.shared, w.ask, w.anything}
	for len(w.l) < end {
		before := len(w.l)
		kinds[w.r.Intn(len(kinds))]()
		if len(w.l) > end {
			w.l = w.l[:before]
			for len(w.l) < end {
				w.add(api.Mov)
			}
		}
	}
}

// program is what others enter at its second word, and rows that go round for ever.
func (w *writer) program() []byte {
	serves := 10 + w.r.Intn(20)
	w.add(api.Jmp, 0, serves+1)
	w.rows(serves)
	w.add(api.Ret)
	w.rows(codeWords - 1)
	w.add(api.Jmp, 0, serves+1-(codeWords-1))
	return w.bytes()
}

// bytes are those of what is written.
func (w *writer) bytes() []byte {
	var b []byte
	for _, x := range w.l {
		b = append(b, code.Put(x)...)
	}
	return b
}

// alone is any image without links, and shares.
func alone(r *rand.Rand) api.Image {
	x := api.Image{Heap: 1 + r.Intn(3), Full: 1 + r.Intn(24)}
	for range 1 + r.Intn(4) {
		x.Comps = append(x.Comps, api.Comp{Data: 1 + r.Intn(2)})
	}
	return x
}

// together is any image with links, and shares.
func together(r *rand.Rand) api.Image {
	x := alone(r)
	for i := range x.Comps {
		for range r.Intn(maxLinks + 1) {
			if to := r.Intn(len(x.Comps)); to != i {
				x.Links = append(x.Links, api.Link{From: i, To: to, At: 1})
			}
		}
	}
	for range r.Intn(5) {
		read := r.Intn(1 << len(x.Comps))
		x.Shares = append(x.Shares, api.Share{Read: read, Write: read & r.Intn(16)})
	}
	return x
}

// write gives one of an image's compartments any program.
func write(r *rand.Rand, x *api.Image, comp int, wild int) {
	w := &writer{r: r, wild: wild}
	for _, l := range x.Links {
		if l.From == comp {
			w.links++
		}
	}
	for _, s := range x.Shares {
		if w.share == 0 && s.Read>>comp&1 == 1 {
			w.share = api.Read
			if s.Write>>comp&1 == 1 {
				w.share |= api.Write
			}
		}
	}
	x.Comps[comp].Code = w.program()
}

// written is an image with any programs.
func written(r *rand.Rand, x api.Image, wild int) api.Image {
	for comp := range x.Comps {
		write(r, &x, comp, wild)
	}
	return x
}
