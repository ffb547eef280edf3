package code

import (
	"syndic/api"
	"syndic/num"
)

// mostText is how many bytes a text may have.
const mostText = 4096

// fields is what a walk tells each field to: a writer writes it and answers it, a reader answers what it reads instead.
type fields interface {
	num(n int) int
	text(s string) string
	count(n int) int // of a list: how many there are to be walked
}

// writer writes what it is told.
type writer struct {
	to *num.Writer
}

func (w *writer) num(n int) int {
	w.to.Num(n)
	return n
}

func (w *writer) text(s string) string {
	if len(s) > mostText {
		w.spoil()
		return s
	}
	w.to.Text(s)
	return s
}

func (w *writer) count(n int) int {
	if n > api.MaxList {
		w.spoil()
		return 0
	}
	return w.num(n)
}

// spoil lets nothing be written: a number below 0 never is.
func (w *writer) spoil() { w.to.Num(-1) }

// reader reads what a writer wrote, till something is wrong: then it answers noughts.
type reader struct {
	from  *num.Reader
	wrong api.Errno // what it found wrong by itself
}

func (r *reader) num(int) int {
	if r.wrong != api.OK {
		return 0
	}
	return r.from.Num()
}

func (r *reader) text(string) string {
	if r.wrong != api.OK {
		return ""
	}
	return r.from.Text(mostText)
}

func (r *reader) count(int) int {
	n := r.num(0)
	if n > api.MaxList {
		r.wrong = api.ErrLong
		return 0
	}
	return n
}

// end is the first error.
func (r *reader) end() api.Errno {
	if r.wrong != api.OK {
		return r.wrong
	}
	return r.from.End()
}

// written is what a walk writes of x.
func written[T any](x T, walk func(fields, T) T) ([]byte, api.Errno) {
	w := &writer{num.New()}
	walk(w, x)
	return w.to.Bytes()
}

// read is what a walk reads of bytes.
func read[T any](b []byte, walk func(fields, T) T) (T, api.Errno) {
	var none T
	r := &reader{from: num.Of(b)}
	x := walk(r, none)
	if err := r.end(); err != api.OK {
		return none, err
	}
	return x, api.OK
}

// number walks a number of any type.
func number[T ~int](f fields, n T) T { return T(f.num(int(n))) }

// list walks a list: how many, and each.
func list[T any](f fields, l []T, walk func(fields, T) T) []T {
	n := f.count(len(l))
	if _, ok := f.(*reader); ok {
		l = make([]T, n)
	}
	out := make([]T, 0, n)
	for i := range n {
		out = append(out, walk(f, l[i]))
	}
	return out
}

func name(f fields, s string) string { return f.text(s) }

func id(f fields, x api.ID) api.ID {
	x.Epoch = f.num(x.Epoch)
	x.Node = f.num(x.Node)
	x.No = f.num(x.No)
	return x
}

func ballot(f fields, b api.Ballot) api.Ballot {
	b.No = f.num(b.No)
	b.Node = f.num(b.Node)
	return b
}

func command(f fields, c api.Command) api.Command {
	c.Client = f.num(c.Client)
	c.Seq = f.num(c.Seq)
	c.Op = number(f, c.Op)
	c.Path = f.text(c.Path)
	c.Value = f.text(c.Value)
	c.Version = f.num(c.Version)
	c.A = f.num(c.A)
	c.B = f.num(c.B)
	return c
}

func attr(f fields, a api.Attr) api.Attr {
	a.Seq = f.num(a.Seq)
	a.Deps = list(f, a.Deps, id)
	return a
}

func inst(f fields, x api.Inst) api.Inst {
	x.Status = number(f, x.Status)
	x.Promise = ballot(f, x.Promise)
	x.Voted = ballot(f, x.Voted)
	x.Cmd = command(f, x.Cmd)
	x.Attr = attr(f, x.Attr)
	return x
}

func reply(f fields, r api.Reply) api.Reply {
	r.Err = number(f, r.Err)
	r.Value = f.text(r.Value)
	r.Version = f.num(r.Version)
	r.Names = list(f, r.Names, name)
	return r
}

func config(f fields, c api.Config) api.Config {
	c.Epoch = f.num(c.Epoch)
	c.Nodes = list(f, c.Nodes, number[int])
	return c
}

func entry(f fields, e api.Entry) api.Entry {
	e.Path = f.text(e.Path)
	e.Value = f.text(e.Value)
	e.Version = f.num(e.Version)
	return e
}

func session(f fields, s api.Session) api.Session {
	s.Client = f.num(s.Client)
	s.Seq = f.num(s.Seq)
	s.Reply = reply(f, s.Reply)
	return s
}

func snap(f fields, s api.Snap) api.Snap {
	s.Config = config(f, s.Config)
	s.Paths = list(f, s.Paths, entry)
	s.Sessions = list(f, s.Sessions, session)
	return s
}

func message(f fields, m api.Msg) api.Msg {
	m.Kind = number(f, m.Kind)
	m.From = f.num(m.From)
	m.To = f.num(m.To)
	m.ID = id(f, m.ID)
	m.Ballot = ballot(f, m.Ballot)
	m.Inst = inst(f, m.Inst)
	m.Snap = snap(f, m.Snap)
	return m
}
