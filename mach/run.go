package mach

import "seizin/api"

// The registers by which a thread asks, and is answered.
const (
	asked   = 0
	outcome = 1
)

// turn is a thread that runs, and what is told of it.
type turn struct {
	*Machine
	place int
	own   *compartment
	told  []api.Told
}

// answers are what is done when something is asked for.
func answers() map[int]func(*turn) {
	return map[int]func(*turn){
		api.SysOut:   (*turn).out,
		api.SysIn:    (*turn).in,
		api.SysAlloc: (*turn).alloc,
		api.SysFree:  (*turn).free,
		api.SysSize:  (*turn).size,
		api.SysYield: (*turn).yield,
		api.SysSweep: (*turn).sweep,
	}
}

// Run has a thread do so many steps: how many it did, and what came of it.
func (m *Machine) Run(thread int, steps int) (int, []api.Told) {
	if !m.is(thread) || m.comps[thread].state != api.Ready || steps < 1 || steps > most {
		return 0, nil
	}
	x := &turn{Machine: m, place: thread, own: m.comps[thread]}
	does := answers()
	for done := 1; done <= steps; done++ {
		did := x.own.thread.Step(m.memory, x.own.sweeper)
		switch did.Kind {
		case api.Stopped:
			x.end(api.Ended, api.OK)
		case api.Trapped:
			x.end(api.Fault, did.Err)
		case api.Asked:
			if answer, is := does[did.N]; is {
				answer(x)
			} else {
				x.end(api.Fault, api.ErrOp)
			}
		}
		// A thread that is at its end goes on no more, whatever it asked for.
		if x.own.state != api.Ready || did.Kind == api.Asked && did.N == api.SysYield {
			return done, x.told
		}
	}
	return steps, x.told
}

// end has the thread be at its end, which is told.
func (x *turn) end(state int, err api.Errno) {
	x.own.state = state
	x.told = append(x.told, api.Told{Thread: x.place, State: state, Err: err})
}

// whoseTurn is the compartment of which something is asked for.
func (x *turn) whoseTurn() *compartment { return x.whose(x.own) }

func (x *turn) out() {
	x.told = append(x.told, api.Told{Thread: x.place, State: api.Ready, N: x.own.thread.Regs().Value(asked)})
}

func (x *turn) in() {
	n := 0
	if len(x.own.comesIn) > 0 {
		n = x.own.comesIn[0]
		x.own.comesIn = x.own.comesIn[1:]
	}
	x.own.register(asked, n)
}

// yield does nothing more: that another one's turn comes is up to the script.
func (x *turn) yield() {}

func (x *turn) alloc() {
	k := x.whoseTurn()
	c, err := k.Alloc(x.own.thread.Regs().Value(asked))
	if err == api.OK {
		takes, _ := k.Size(c)
		x.memory.Store(c.Base, make([]byte, takes))
	}
	x.own.thread.Regs().Set(asked, c) // cap.Null, if there was an error
	x.own.register(outcome, int(err))
}

func (x *turn) free() {
	k := x.whoseTurn()
	x.own.register(outcome, int(k.Free(x.own.thread.Regs().Get(asked))))
	x.beginIfWanted(k)
}

func (x *turn) size() {
	n, err := x.whoseTurn().Size(x.own.thread.Regs().Get(asked))
	x.own.register(asked, n)
	x.own.register(outcome, int(err))
}

func (x *turn) sweep() {
	n := 0
	if x.begin(x.whoseTurn()) {
		n = 1
	}
	x.own.register(outcome, n)
}
