package world

import (
	"slices"

	"syndic/api"
	"syndic/code"
	"syndic/node"
)

// nodeActs are the acts of nodes: A is one.
func (w *World) nodeActs() map[api.ActKind]func(api.Act) api.Errno {
	return map[api.ActKind]func(api.Act) api.Errno{
		api.ActCall:    w.call,
		api.ActTick:    w.tick,
		api.ActCrash:   w.crash,
		api.ActStart:   w.restart,
		api.ActRecover: w.takeOver,
	}
}

// msgActs are the acts of messages: A is one that flies.
func (w *World) msgActs() map[api.ActKind]func(api.Act) api.Errno {
	return map[api.ActKind]func(api.Act) api.Errno{
		api.ActDeliver: w.deliver,
		api.ActDrop:    w.drop,
		api.ActDouble:  w.double,
		api.ActSpoil:   w.spoil,
	}
}

func (w *World) call(a api.Act) api.Errno {
	return w.lets(a.A, func(n *node.Node) node.Out { return n.Call(a.Cmd) })
}

func (w *World) tick(a api.Act) api.Errno {
	return w.lets(a.A, (*node.Node).Tick)
}

func (w *World) takeOver(a api.Act) api.Errno {
	return w.lets(a.A, func(n *node.Node) node.Out { return n.Recover(a.ID) })
}

func (w *World) crash(a api.Act) api.Errno {
	if !w.Up(a.A) {
		return api.ErrNone
	}
	if a.B < 0 {
		w.fall(a.A, 0)
		return api.OK
	}
	p := w.places[a.A]
	p.crashes, p.keep = true, a.B
	return api.OK
}

func (w *World) restart(a api.Act) api.Errno {
	if w.Up(a.A) {
		return api.ErrBusy
	}
	p := w.places[a.A]
	if err := w.rise(p, a.A); err != api.OK { // its disk tells what no node can know
		return err
	}
	w.events = append(w.events, api.Event{Kind: api.EvStart, Node: a.A})
	w.does(a.A, p.node.Start())
	return api.OK
}

func (w *World) deliver(a api.Act) api.Errno {
	b := w.flying[a.A].bytes
	w.land(a.A)
	if m, err := code.OfFrame(b); err == api.OK {
		w.lets(m.To, func(n *node.Node) node.Out { return n.Deliver(m) })
	}
	return api.OK
}

func (w *World) drop(a api.Act) api.Errno {
	w.land(a.A)
	return api.OK
}

func (w *World) double(a api.Act) api.Errno {
	l := w.flying[a.A]
	if l.spoilt {
		return api.ErrArg
	}
	w.flying = append(w.flying, l)
	return api.OK
}

func (w *World) spoil(a api.Act) api.Errno {
	l := w.flying[a.A]
	if l.spoilt || !within(a.B, len(l.bytes)) || a.C < 1 || a.C > 255 {
		return api.ErrArg
	}
	b := slices.Clone(l.bytes) // another one may be the same bytes
	b[a.B] ^= byte(a.C)
	w.flying[a.A] = letter{b, true}
	return api.OK
}

// lets lets a node do something, if it is up.
func (w *World) lets(n int, do func(*node.Node) node.Out) api.Errno {
	if !w.Up(n) {
		return api.ErrNone
	}
	w.does(n, do(w.places[n].node))
	return api.OK
}

// land lets a message fly no more.
func (w *World) land(i int) {
	w.flying = append(w.flying[:i:i], w.flying[i+1:]...)
}
