package accept

import (
	"math"
	"reflect"
	"slices"
	"testing"

	"syndic/api"
	"syndic/ballot"
)

// three is the configuration of most tests: the book is node 1's.
var three = api.Config{Epoch: 4, Nodes: []int{0, 1, 2}}

// id is an instance of the epoch.
func id(node, no int) api.ID { return api.ID{Epoch: 4, Node: node, No: no} }

// set is a command that sets a path.
func set(client int, path string) api.Command {
	return api.Command{Client: client, Seq: 1, Op: api.OpSet, Path: path}
}

// msg is a message of node 0 to node 1.
func msg(kind api.MsgKind, x api.ID, no, node int, c api.Command, seq int, deps ...api.ID) api.Msg {
	return api.Msg{Kind: kind, From: 0, To: 1, ID: x, Ballot: api.Ballot{No: no, Node: node}, Inst: api.Inst{Cmd: c, Attr: api.Attr{Seq: seq, Deps: deps}}}
}

// inst is what a book has when ballots are the same.
func inst(s api.Status, no, node int, c api.Command, seq int, deps ...api.ID) api.Inst {
	b := api.Ballot{No: no, Node: node}
	return api.Inst{Status: s, Promise: b, Voted: b, Cmd: c, Attr: api.Attr{Seq: seq, Deps: deps}}
}

// same tells whether two instances are, lists without things among them.
func same(a, b api.Inst) bool {
	deps := slices.Equal(a.Attr.Deps, b.Attr.Deps)
	a.Attr.Deps, b.Attr.Deps = nil, nil
	return deps && reflect.DeepEqual(a, b)
}

// hear lets a book hear a message, and holds the answer, and what it has then, against what is wanted.
func hear(t *testing.T, b *Book, m api.Msg, kind api.MsgKind, answered, has api.Inst) {
	t.Helper()
	l := b.Hear(m)
	if got := b.Get(m.ID); !same(got, has) {
		t.Errorf("it has %+v", got)
	}
	if len(l) != 1 {
		t.Errorf("answers: %+v", l)
		return
	}
	a, x := l[0], l[0].Inst
	a.Inst = api.Inst{}
	want := api.Msg{Kind: kind, From: 1, To: m.From, ID: m.ID, Ballot: m.Ballot}
	if kind == api.MsgNo {
		want.Ballot = has.Promise
	}
	if !reflect.DeepEqual(a, want) || !same(x, answered) {
		t.Errorf("answer %+v", l[0])
	}
}

// silent lets a book hear a message that it does not answer.
func silent(t *testing.T, b *Book, m api.Msg, has api.Inst) {
	t.Helper()
	if l := b.Hear(m); len(l) != 0 {
		t.Errorf("answers: %+v", l)
	}
	if got := b.Get(m.ID); !same(got, has) {
		t.Errorf("it has %+v", got)
	}
}

func TestPre(t *testing.T) {
	b := New(1, three)
	x := inst(api.StPre, 0, 0, set(1, "/a"), 1)
	hear(t, b, msg(api.MsgPre, id(0, 0), 0, 0, set(1, "/a"), 1), api.MsgPreOK, x, x)
	y := inst(api.StPre, 0, 2, set(2, "/a"), 5, id(0, 0), id(2, 0))
	hear(t, b, msg(api.MsgPre, id(2, 1), 0, 2, set(2, "/a"), 5, id(2, 0)), api.MsgPreOK, y, y)
	z := inst(api.StPre, 0, 2, set(3, "/a"), 6, id(0, 0), id(2, 1))
	hear(t, b, msg(api.MsgPre, id(2, 2), 0, 2, set(3, "/a"), 0), api.MsgPreOK, z, z)
	other := inst(api.StPre, 0, 0, set(4, "/b"), 1)
	hear(t, b, msg(api.MsgPre, id(0, 3), 0, 0, set(4, "/b"), 1), api.MsgPreOK, other, other)
	// once more: as it was, whatever the message tells
	hear(t, b, msg(api.MsgPre, id(0, 0), 0, 0, set(9, "/z"), 9), api.MsgPreOK, x, x)
	// a greater ballot: anew, among all that is known by now
	x = inst(api.StPre, 1, 2, set(1, "/a"), 7, id(2, 1), id(2, 2))
	hear(t, b, msg(api.MsgPre, id(0, 0), 1, 2, set(1, "/a"), 0), api.MsgPreOK, x, x)
	// a lesser one
	hear(t, b, msg(api.MsgPre, id(0, 0), 1, 1, set(1, "/a"), 0), api.MsgNo, api.Inst{}, x)
}

func TestPreOfOneThatIsAccepted(t *testing.T) {
	b := New(1, three)
	x := inst(api.StAccepted, 1, 2, set(1, "/a"), 3)
	b.Set(id(0, 0), x)
	silent(t, b, msg(api.MsgPre, id(0, 0), 1, 2, set(2, "/a"), 1), x)
	y := inst(api.StPre, 2, 0, set(2, "/a"), 1)
	hear(t, b, msg(api.MsgPre, id(0, 0), 2, 0, set(2, "/a"), 1), api.MsgPreOK, y, y)
}

func TestAccept(t *testing.T) {
	b := New(1, three)
	b.Set(id(2, 7), inst(api.StPre, 0, 2, set(2, "/a"), 9))
	x := inst(api.StAccepted, 0, 0, set(1, "/a"), 3, id(0, 1))
	hear(t, b, msg(api.MsgAccept, id(0, 0), 0, 0, set(1, "/a"), 3, id(0, 1)), api.MsgAcceptOK, x, x)
	x = inst(api.StAccepted, 0, 0, set(2, "/b"), 0)
	hear(t, b, msg(api.MsgAccept, id(0, 0), 0, 0, set(2, "/b"), 0), api.MsgAcceptOK, x, x)
	x = inst(api.StAccepted, 5, 1, api.Command{}, 0)
	hear(t, b, msg(api.MsgAccept, id(0, 0), 5, 1, api.Command{}, 0), api.MsgAcceptOK, x, x)
	hear(t, b, msg(api.MsgAccept, id(0, 0), 5, 0, set(1, "/a"), 0), api.MsgNo, api.Inst{}, x)
}

func TestPrepare(t *testing.T) {
	b := New(1, three)
	none := api.Inst{Promise: api.Ballot{No: 1, Node: 2}}
	hear(t, b, msg(api.MsgPrepare, id(0, 0), 1, 2, set(9, "/z"), 9), api.MsgPrepareOK, none, none)
	if len(b.Known()) != 0 || len(b.IDs()) != 1 {
		t.Error("what was promised alone is not known:", b.Known(), b.IDs())
	}
	hear(t, b, msg(api.MsgPre, id(0, 0), 0, 0, set(1, "/a"), 1), api.MsgNo, api.Inst{}, none)
	hear(t, b, msg(api.MsgPrepare, id(0, 0), 1, 2, set(9, "/z"), 9), api.MsgPrepareOK, none, none)
	x := inst(api.StPre, 0, 0, set(1, "/a"), 1, id(0, 0))
	b.Set(id(0, 1), x)
	x.Promise = api.Ballot{No: 1, Node: 2}
	hear(t, b, msg(api.MsgPrepare, id(0, 1), 1, 2, api.Command{}, 0), api.MsgPrepareOK, x, x)
	hear(t, b, msg(api.MsgAccept, id(0, 1), 0, 0, set(1, "/a"), 1), api.MsgNo, api.Inst{}, x)
	hear(t, b, msg(api.MsgPrepare, id(0, 1), 1, 1, api.Command{}, 0), api.MsgNo, api.Inst{}, x)
	x.Promise = api.Ballot{No: 2, Node: 0}
	hear(t, b, msg(api.MsgPrepare, id(0, 1), 2, 0, api.Command{}, 0), api.MsgPrepareOK, x, x)
}

func TestCommit(t *testing.T) {
	b := New(1, three)
	b.Set(id(0, 0), api.Inst{Promise: api.Ballot{No: 7, Node: 2}, Voted: api.Ballot{No: 3}})
	m := msg(api.MsgCommit, id(0, 0), 0, 0, set(1, "/a"), 2, id(2, 2))
	m.Inst.Status, m.Inst.Voted, m.Inst.Promise = api.StPre, api.Ballot{No: 4, Node: 1}, api.Ballot{No: 99}
	x := api.Inst{Status: api.StCommitted, Promise: api.Ballot{No: 7, Node: 2}, Voted: api.Ballot{No: 4, Node: 1}, Cmd: set(1, "/a"), Attr: api.Attr{Seq: 2, Deps: []api.ID{id(2, 2)}}}
	silent(t, b, m, x)
	again := msg(api.MsgCommit, id(0, 0), 9, 0, set(5, "/b"), 1)
	silent(t, b, again, x)
	for _, kind := range []api.MsgKind{api.MsgPre, api.MsgAccept, api.MsgPrepare} {
		hear(t, b, msg(kind, id(0, 0), 0, 0, set(1, "/z"), 1), api.MsgCommit, x, x)
		hear(t, b, msg(kind, id(0, 0), 99, 2, set(1, "/z"), 1), api.MsgCommit, x, x)
	}
	silent(t, New(1, three), m, api.Inst{Status: api.StCommitted, Voted: x.Voted, Cmd: x.Cmd, Attr: x.Attr})
}

// A MsgPre of ballot 0.1 is answered; then one of MsgPrepare 1.2 by what was voted; then MsgAccept of 0.1 by MsgNo with 1.2.
func TestExample(t *testing.T) {
	b := New(1, three)
	x := inst(api.StPre, 0, 1, set(1, "/a"), 1)
	hear(t, b, msg(api.MsgPre, id(1, 0), 0, 1, set(1, "/a"), 1), api.MsgPreOK, x, x)
	x.Promise = api.Ballot{No: 1, Node: 2}
	hear(t, b, msg(api.MsgPrepare, id(1, 0), 1, 2, api.Command{}, 0), api.MsgPrepareOK, x, x)
	hear(t, b, msg(api.MsgAccept, id(1, 0), 0, 1, set(1, "/a"), 1), api.MsgNo, api.Inst{}, x)
}

func TestRight(t *testing.T) {
	good := msg(api.MsgPre, id(2, 0), 1<<40, 31, set(1, "/a"), 1<<40, id(0, 0), id(31, 0))
	b := New(1, three)
	if !b.Right(good) {
		t.Fatal("right")
	}
	many := make([]api.ID, 1025)
	for i := range many {
		many[i] = id(0, i)
	}
	for i, spoil := range []func(m *api.Msg){
		func(m *api.Msg) { m.To = 0 },
		func(m *api.Msg) { m.From = 3 },
		func(m *api.Msg) { m.From = -1 },
		func(m *api.Msg) { m.ID.Epoch = 3 },
		func(m *api.Msg) { m.ID.Epoch = 5 },
		func(m *api.Msg) { m.ID.Node = 3 },
		func(m *api.Msg) { m.ID.No = -1 },
		func(m *api.Msg) { m.ID.No = 1<<40 + 1 },
		func(m *api.Msg) { m.Ballot.No = -1 },
		func(m *api.Msg) { m.Ballot.No = 1<<40 + 1 },
		func(m *api.Msg) { m.Ballot.Node = 32 },
		func(m *api.Msg) { m.Inst.Voted.No = -1 },
		func(m *api.Msg) { m.Inst.Voted.Node = math.MaxInt },
		func(m *api.Msg) { m.Inst.Attr.Seq = -1 },
		func(m *api.Msg) { m.Inst.Attr.Deps = many },
		func(m *api.Msg) { m.Inst.Attr.Deps = []api.ID{id(2, 0)} },
		func(m *api.Msg) { m.Inst.Attr.Deps = []api.ID{id(0, 1), id(0, 0)} },
		func(m *api.Msg) { m.Inst.Attr.Deps = []api.ID{{Epoch: 3}} },
	} {
		for kind := api.MsgPre; kind <= api.MsgSnap; kind++ {
			m := good
			m.Kind = kind
			spoil(&m)
			if b.Right(m) || len(b.Hear(m)) != 0 || len(b.IDs()) != 0 {
				t.Error(i, kind)
			}
		}
	}
	for _, m := range []api.Msg{good, {From: 1, To: 1, ID: id(1, 1)}} {
		if !b.Right(m) {
			t.Error(m)
		}
	}
	out := New(7, three)
	if m := (api.Msg{From: 0, To: 7, ID: id(0, 0)}); out.Right(m) || len(out.Hear(m)) != 0 {
		t.Error("it votes, and is no member")
	}
}

func TestOtherKindsAreNotHeard(t *testing.T) {
	b := New(1, three)
	for _, kind := range []api.MsgKind{api.MsgPreOK, api.MsgAcceptOK, api.MsgPrepareOK, api.MsgNo, api.MsgAsk, api.MsgSnap, -1, 10, math.MaxInt} {
		m := msg(kind, id(0, 0), 1, 0, set(1, "/a"), 1)
		if !b.Right(m) {
			t.Error("right is not asked for kinds:", kind)
		}
		if len(b.Hear(m)) != 0 || len(b.IDs()) != 0 {
			t.Error(kind)
		}
	}
}

func TestSetGetAndLists(t *testing.T) {
	b := New(1, three)
	for i, x := range []api.Inst{{}, {Status: api.StPre, Cmd: set(1, "/a"), Attr: api.Attr{Seq: 7, Deps: []api.ID{id(9, 9), id(0, 0), id(0, 0)}}}, {Status: api.StAccepted}, {Status: api.StCommitted}, {Promise: api.Ballot{No: 1}}} {
		x.Voted.No = i
		for _, at := range []api.ID{id(2, i), id(0, i)} {
			b.Set(at, x)
			if !same(b.Get(at), x) {
				t.Error(b.Get(at))
			}
		}
	}
	if !slices.Equal(b.IDs(), []api.ID{id(0, 0), id(2, 0), id(0, 1), id(2, 1), id(0, 2), id(2, 2), id(0, 3), id(2, 3), id(0, 4), id(2, 4)}) {
		t.Error(b.IDs())
	}
	var known []api.ID
	for _, k := range b.Known() {
		known = append(known, k.ID)
		x := b.Get(k.ID)
		if k.Cmd != x.Cmd || k.Attr.Seq != x.Attr.Seq || !slices.Equal(k.Attr.Deps, x.Attr.Deps) {
			t.Error(k)
		}
	}
	if !slices.Equal(known, []api.ID{id(0, 1), id(2, 1), id(0, 2), id(2, 2), id(0, 3), id(2, 3)}) {
		t.Error(known)
	}
	if !same(b.Get(id(5, 5)), api.Inst{}) || slices.Contains(b.IDs(), id(5, 5)) {
		t.Error("what was never set")
	}
}

func TestNothingIsShared(t *testing.T) {
	conf := api.Config{Epoch: 4, Nodes: []int{0, 1, 2}}
	b := New(1, conf)
	conf.Nodes[0] = 9
	m := msg(api.MsgPre, id(0, 5), 0, 0, set(1, "/a"), 3, id(0, 1), id(0, 2))
	want := inst(api.StPre, 0, 0, set(1, "/a"), 3, id(0, 1), id(0, 2))
	spoil := func(l []api.ID) { l[0] = id(7, 7) }
	spoil(b.Hear(m)[0].Inst.Attr.Deps)
	spoil(m.Inst.Attr.Deps)
	spoil(b.Get(id(0, 5)).Attr.Deps)
	spoil(b.Known()[0].Attr.Deps)
	spoil(b.IDs())
	spoil(b.Hear(msg(api.MsgPrepare, id(0, 5), 0, 0, api.Command{}, 0))[0].Inst.Attr.Deps)
	if !same(b.Get(id(0, 5)), want) {
		t.Error(b.Get(id(0, 5)))
	}
	for _, kind := range []api.MsgKind{api.MsgAccept, api.MsgCommit} {
		m = msg(kind, id(0, 6), 0, 0, set(1, "/a"), 3, id(0, 1))
		b.Hear(m)
		spoil(m.Inst.Attr.Deps)
		if b.Get(id(0, 6)).Attr.Deps[0] != id(0, 1) {
			t.Error(kind)
		}
	}
	x := inst(api.StPre, 0, 0, set(1, "/a"), 3, id(0, 1))
	b.Set(id(0, 7), x)
	spoil(x.Attr.Deps)
	if b.Get(id(0, 7)).Attr.Deps[0] != id(0, 1) {
		t.Error("set")
	}
}

// A promise never falls; what was decided stays.
func TestPromisesNeverFall(t *testing.T) {
	b, turn := New(1, three), uint32(3)
	next := func(n int) int {
		turn = turn*1664525 + 1013904223
		return int(turn>>8) % n
	}
	had := map[api.ID]api.Inst{}
	for i := range 4000 {
		m := msg(api.MsgKind(next(8)), id(next(3), next(40)), next(5), next(3), set(next(4), "/a"), next(9))
		m.From = next(3)
		if m.Kind == api.MsgCommit && i < 2000 {
			continue
		}
		b.Hear(m)
		x, was := b.Get(m.ID), had[m.ID]
		if ballot.Less(x.Promise, was.Promise) || was.Status == api.StCommitted && !same(x, was) {
			t.Fatalf("%+v: %+v, %+v", m, was, x)
		}
		had[m.ID] = x
	}
}
