// Package clone lays what has lists anew, so that what is handed in, kept or handed out shares none.
package clone

import (
	"slices"

	"syndic/api"
)

// Attr is an attribute with a list of its own.
func Attr(a api.Attr) api.Attr {
	a.Deps = slices.Clone(a.Deps)
	return a
}

// Inst is an instance with a list of its own.
func Inst(x api.Inst) api.Inst {
	x.Attr = Attr(x.Attr)
	return x
}

// Reply is a reply with a list of its own.
func Reply(r api.Reply) api.Reply {
	r.Names = slices.Clone(r.Names)
	return r
}

// Session is a session with a list of its own.
func Session(s api.Session) api.Session {
	s.Reply = Reply(s.Reply)
	return s
}

// Snap is a snap with lists of its own.
func Snap(s api.Snap) api.Snap {
	s.Config = config(s.Config)
	s.Paths = slices.Clone(s.Paths)
	s.Sessions = slices.Clone(s.Sessions)
	for i := range s.Sessions {
		s.Sessions[i] = Session(s.Sessions[i])
	}
	return s
}

// Msg is a message with lists of its own.
func Msg(m api.Msg) api.Msg {
	m.Inst = Inst(m.Inst)
	m.Snap = Snap(m.Snap)
	return m
}

// Event is an event with lists of its own.
func Event(e api.Event) api.Event {
	e.Attr = Attr(e.Attr)
	e.Reply = Reply(e.Reply)
	e.Conf = config(e.Conf)
	return e
}

func config(c api.Config) api.Config {
	c.Nodes = slices.Clone(c.Nodes)
	return c
}
