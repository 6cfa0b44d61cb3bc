package step

import (
	"seizin/access"
	"seizin/alu"
	"seizin/api"
	"seizin/cap"
	"seizin/derive"
)

const (
	byteBytes = 1
	wordBytes = 4
)

// The registers that a call keeps, and the one in which it hands over what is called with it.
const (
	firstKept = 4
	handed    = 7
)

// actions are what is done by each instruction. An action that answers an error has changed nothing.
func actions() map[int]func(*turn) api.Errno {
	return map[int]func(*turn) api.Errno{
		api.Halt: (*turn).halt,
		api.Movi: (*turn).number,
		api.Mov:  (*turn).move,
		api.Add:  (*turn).reckon,
		api.Sub:  (*turn).reckon,
		api.Mul:  (*turn).reckon,
		api.Div:  (*turn).reckon,
		api.Lt:   (*turn).reckon,
		api.Eq:   (*turn).reckon,
		api.Jmp:  (*turn).jump,
		api.Jz:   (*turn).jumpIfZero,
		api.Ldb:  (*turn).loadByte,
		api.Stb:  (*turn).storeByte,
		api.Ldw:  (*turn).loadWord,
		api.Stw:  (*turn).storeWord,
		api.Ldc:  (*turn).loadCap,
		api.Stc:  (*turn).storeCap,
		api.Inc:  (*turn).increase,
		api.Bnd:  (*turn).bound,
		api.Prm:  (*turn).permit,
		api.Sel:  (*turn).seal,
		api.Uns:  (*turn).unseal,
		api.Ent:  (*turn).enter,
		api.Call: (*turn).call,
		api.Ret:  (*turn).back,
		api.Len:  (*turn).length,
		api.Off:  (*turn).offset,
		api.Tag:  (*turn).tag,
		api.Addr: (*turn).address,
		api.Sys:  (*turn).ask,
	}
}

// a, b, and c are what the instruction's registers have.
func (x *turn) a() api.Cap { return x.Regs().Get(x.ins.A) }

func (x *turn) b() api.Cap { return x.Regs().Get(x.ins.B) }

func (x *turn) c() api.Cap { return x.Regs().Get(x.ins.C) }

// give has the first register have what was made, unless something was wrong.
func (x *turn) give(c api.Cap, err api.Errno) api.Errno {
	if err == api.OK {
		x.Regs().Set(x.ins.A, c)
	}
	return err
}

// giveNumber has it have a number.
func (x *turn) giveNumber(n int, err api.Errno) api.Errno { return x.give(cap.Int(n), err) }

func (x *turn) halt() api.Errno {
	x.next = x.At()
	x.did = api.Did{Kind: api.Stopped}
	return api.OK
}

func (x *turn) ask() api.Errno {
	x.did = api.Did{Kind: api.Asked, N: x.ins.A}
	return api.OK
}

func (x *turn) number() api.Errno { return x.giveNumber(x.ins.B, api.OK) }

func (x *turn) move() api.Errno { return x.give(x.b(), api.OK) }

func (x *turn) reckon() api.Errno {
	return x.giveNumber(alu.Do(x.ins.Op, cap.Value(x.b()), cap.Value(x.c())))
}

func (x *turn) length() api.Errno { return x.giveNumber(cap.Size(x.b()), api.OK) }

func (x *turn) offset() api.Errno { return x.giveNumber(cap.Off(x.b()), api.OK) }

func (x *turn) address() api.Errno { return x.giveNumber(cap.Value(x.b()), api.OK) }

func (x *turn) tag() api.Errno {
	if x.b().Tag {
		return x.giveNumber(1, api.OK)
	}
	return x.giveNumber(0, api.OK)
}

func (x *turn) jump() api.Errno {
	to, is := access.Step(x.At(), insBytes*x.ins.B)
	if !is {
		return api.ErrBound
	}
	x.next = to
	return api.OK
}

func (x *turn) jumpIfZero() api.Errno {
	if cap.Value(x.a()) != 0 {
		return api.OK
	}
	return x.jump()
}

func (x *turn) loadByte() api.Errno { return x.load(byteBytes) }

func (x *turn) loadWord() api.Errno { return x.load(wordBytes) }

func (x *turn) load(n int) api.Errno {
	at, err := access.Load(x.b(), x.ins.C, n)
	if err != api.OK {
		return err
	}
	b, is := x.memory.Load(at, n)
	if !is {
		return api.ErrBound
	}
	return x.giveNumber(alu.Number(b), api.OK)
}

func (x *turn) storeByte() api.Errno { return x.store(byteBytes) }

func (x *turn) storeWord() api.Errno { return x.store(wordBytes) }

func (x *turn) store(n int) api.Errno {
	at, err := access.Store(x.b(), x.ins.C, n)
	if err != api.OK {
		return err
	}
	if !x.memory.Store(at, alu.Bytes(cap.Value(x.a()), n)) {
		return api.ErrBound
	}
	return api.OK
}

func (x *turn) loadCap() api.Errno {
	at, err := access.LoadCap(x.b(), api.Granule*x.ins.C)
	if err != api.OK {
		return err
	}
	c, is := x.memory.LoadCap(at)
	if !is {
		return api.ErrBound
	}
	return x.give(x.sweeper.Barrier(c), api.OK)
}

func (x *turn) storeCap() api.Errno {
	at, err := access.StoreCap(x.b(), api.Granule*x.ins.C)
	if err != api.OK {
		return err
	}
	if !x.memory.StoreCap(at, x.a()) {
		return api.ErrBound
	}
	return api.OK
}

func (x *turn) increase() api.Errno {
	return x.give(derive.Move(x.b(), cap.Value(x.b())+cap.Value(x.c())))
}

func (x *turn) bound() api.Errno { return x.give(derive.Bounds(x.b(), cap.Value(x.c()))) }

func (x *turn) permit() api.Errno { return x.give(derive.Perms(x.b(), x.ins.C)) }

func (x *turn) seal() api.Errno { return x.give(derive.Seal(x.b(), x.c())) }

func (x *turn) unseal() api.Errno { return x.give(derive.Unseal(x.b(), x.c())) }

func (x *turn) enter() api.Errno { return x.give(derive.Enter(x.b())) }

// callable is what is wrong with a call of one, with another one.
func callable(a api.Cap, b api.Cap) api.Errno {
	switch {
	case !a.Tag:
		return api.ErrTag
	case a.Type == 0:
		return api.ErrSeal
	case a.Perms&api.Exec == 0:
		return api.ErrPerm
	case a.Type == api.Entry:
		return api.OK
	case !b.Tag:
		return api.ErrTag
	case b.Type != a.Type:
		return api.ErrType
	case b.Perms&api.Exec != 0:
		return api.ErrPerm
	}
	return api.OK
}

func (x *turn) call() api.Errno {
	a, b := x.a(), x.b()
	if err := callable(a, b); err != api.OK {
		return err
	}
	from := api.Frame{At: x.next}
	for i := range from.Regs {
		from.Regs[i] = x.Regs().Get(firstKept + i)
	}
	if !x.Frames().Push(from) {
		return api.ErrFull
	}
	if a.Type == api.Entry {
		b = cap.Null()
	}
	a.Type, b.Type = 0, 0
	x.next = a
	x.Regs().Clear(firstKept, handed)
	x.Regs().Set(handed, b)
	return api.OK
}

func (x *turn) back() api.Errno {
	to, is := x.Frames().Pop()
	if !is {
		return api.ErrNone
	}
	x.next = to.At
	for i, c := range to.Regs {
		x.Regs().Set(firstKept+i, c)
	}
	return api.OK
}
