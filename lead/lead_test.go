package lead

import (
	"reflect"
	"slices"
	"testing"

	"syndic/api"
)

var (
	three = api.Config{Epoch: 1, Nodes: []int{0, 1, 2}}
	five  = api.Config{Epoch: 1, Nodes: []int{0, 1, 2, 3, 4}}
	mine  = api.ID{Epoch: 1, Node: 0, No: 9}
	cmd   = api.Command{Client: 1, Seq: 2, Op: api.OpSet, Path: "/a"}
	other = api.Command{Client: 3, Seq: 4, Op: api.OpGet, Path: "/b"}
)

// id is an instance of another number.
func id(no int) api.ID { return api.ID{Epoch: 1, Node: 1, No: no} }

// stands is an attribute.
func stands(seq int, deps ...api.ID) api.Attr { return api.Attr{Seq: seq, Deps: deps} }

// msg is an answer to a lead of mine.
func msg(kind api.MsgKind, from int, b api.Ballot, x api.Inst) api.Msg {
	return api.Msg{Kind: kind, From: from, To: 0, ID: mine, Ballot: b, Inst: x}
}

// inst is what an answer tells.
func inst(s api.Status, no, node int, c api.Command, a api.Attr) api.Inst {
	return api.Inst{Status: s, Voted: api.Ballot{No: no, Node: node}, Cmd: c, Attr: a}
}

// pre is a proposal that node from took.
func pre(from int, a api.Attr) api.Msg {
	return msg(api.MsgPreOK, from, api.Ballot{}, inst(api.StPre, 0, 0, cmd, a))
}

// fresh is a new lead of three.
func fresh() *Lead { return New(three, 0, mine, cmd, stands(4, id(1), id(2))) }

// asks holds what a lead asks against what is wanted.
func asks(t *testing.T, l *Lead, kind api.MsgKind, b api.Ballot, x api.Inst) {
	t.Helper()
	want := api.Msg{Kind: kind, ID: mine, Ballot: b}
	got := l.Ask()
	deps, wantDeps := got.Inst.Attr.Deps, x.Attr.Deps
	got.Inst.Attr.Deps, x.Attr.Deps = nil, nil
	want.Inst = x
	if !reflect.DeepEqual(got, want) || !slices.Equal(deps, wantDeps) {
		t.Errorf("asks %+v %v", got, deps)
	}
}

// is holds a lead's phase, and for whom it waits, against what is wanted.
func is(t *testing.T, l *Lead, p Phase, waiting ...int) {
	t.Helper()
	if l.Phase() != p || !slices.Equal(l.Waiting(), waiting) {
		t.Errorf("phase %d, waiting for %v", l.Phase(), l.Waiting())
	}
}

// hear lets a lead hear, and holds what it tells against what is wanted.
func hear(t *testing.T, l *Lead, want bool, m api.Msg) {
	t.Helper()
	if l.Hear(m) != want {
		t.Errorf("hears %+v", m)
	}
}

func TestPhasesAreCounted(t *testing.T) {
	if Proposing != 0 || Accepting != 1 || Asking != 2 || Decided != 3 || Beaten != 4 {
		t.Error("phases")
	}
}

func TestNew(t *testing.T) {
	l := New(three, 7, api.ID{Epoch: 1, Node: 2, No: 3}, cmd, stands(4, id(2), id(1)))
	if l.Ballot() != (api.Ballot{Node: 2}) || l.Phase() != Proposing || !slices.Equal(l.Waiting(), []int{0, 1, 2}) {
		t.Error(l.Ballot(), l.Phase(), l.Waiting())
	}
	want := api.Msg{Kind: api.MsgPre, From: 7, ID: api.ID{Epoch: 1, Node: 2, No: 3}, Ballot: api.Ballot{Node: 2}, Inst: api.Inst{Cmd: cmd, Attr: stands(4, id(2), id(1))}}
	if got := l.Ask(); !reflect.DeepEqual(got, want) {
		t.Errorf("%+v", got)
	}
}

func TestAllAlike(t *testing.T) {
	l := fresh()
	hear(t, l, false, pre(1, stands(4, id(1), id(2))))
	is(t, l, Proposing, 0, 2)
	hear(t, l, false, pre(0, stands(4, id(2), id(1), id(1))))
	is(t, l, Proposing, 2)
	hear(t, l, true, pre(2, stands(4, id(1), id(2))))
	is(t, l, Decided)
	asks(t, l, api.MsgCommit, api.Ballot{}, inst(api.StCommitted, 0, 0, cmd, stands(4, id(1), id(2))))
}

func TestTwoAlikeAndSlow(t *testing.T) {
	l := fresh()
	if l.Slow() {
		t.Error("nobody is heard")
	}
	hear(t, l, false, pre(1, stands(4, id(1), id(2))))
	if l.Slow() {
		t.Error("one of three")
	}
	hear(t, l, false, pre(2, stands(4, id(1), id(2))))
	is(t, l, Proposing, 0)
	if !l.Slow() || l.Slow() {
		t.Error("slow, once")
	}
	is(t, l, Accepting, 0, 1, 2)
	asks(t, l, api.MsgAccept, api.Ballot{}, api.Inst{Cmd: cmd, Attr: stands(4, id(1), id(2))})
}

func TestAnotherOne(t *testing.T) {
	l := fresh()
	hear(t, l, false, pre(0, stands(4, id(1), id(2))))
	hear(t, l, true, pre(2, stands(6, id(7), id(2))))
	is(t, l, Accepting, 0, 1, 2)
	asks(t, l, api.MsgAccept, api.Ballot{}, api.Inst{Cmd: cmd, Attr: stands(6, id(1), id(2), id(7))})
	l = fresh()
	hear(t, l, false, pre(1, stands(5)))
	if l.Phase() != Proposing {
		t.Error("one that is another one is not enough")
	}
	hear(t, l, true, pre(2, stands(4, id(1), id(2))))
	asks(t, l, api.MsgAccept, api.Ballot{}, api.Inst{Cmd: cmd, Attr: stands(5, id(1), id(2))})
	l = fresh() // all are alike, but not as the lead is
	hear(t, l, false, pre(1, stands(5)))
	hear(t, l, true, pre(0, stands(5)))
	asks(t, l, api.MsgAccept, api.Ballot{}, api.Inst{Cmd: cmd, Attr: stands(5)})
}

func TestTheLastOneIsAnother(t *testing.T) {
	l := New(five, 0, mine, cmd, stands(1))
	for from := range 4 {
		hear(t, l, false, pre(from, stands(1)))
	}
	hear(t, l, true, pre(4, stands(2)))
	is(t, l, Accepting, 0, 1, 2, 3, 4)
	asks(t, l, api.MsgAccept, api.Ballot{}, api.Inst{Cmd: cmd, Attr: stands(2)})
}

func TestAccepted(t *testing.T) {
	l := New(five, 0, mine, cmd, stands(1))
	for from := range 3 {
		hear(t, l, false, pre(from, stands(1)))
	}
	l.Slow()
	ok := func(from int) api.Msg {
		return msg(api.MsgAcceptOK, from, api.Ballot{}, inst(api.StAccepted, 0, 0, other, stands(77)))
	}
	hear(t, l, false, ok(3))
	hear(t, l, false, ok(3))
	hear(t, l, false, pre(1, stands(1)))
	hear(t, l, false, ok(0))
	is(t, l, Accepting, 1, 2, 4)
	hear(t, l, true, ok(4))
	is(t, l, Decided)
	asks(t, l, api.MsgCommit, api.Ballot{}, inst(api.StCommitted, 0, 0, cmd, stands(1)))
	hear(t, l, false, ok(1))
}

func TestWhatIsNotHeard(t *testing.T) {
	l := fresh()
	m := pre(1, stands(9))
	for i, spoil := range []func(m *api.Msg){
		func(m *api.Msg) { m.ID.No = 1 },
		func(m *api.Msg) { m.ID.Epoch = 0 },
		func(m *api.Msg) { m.From = 3 },
		func(m *api.Msg) { m.From = -1 },
		func(m *api.Msg) { m.Ballot.No = 1 },
		func(m *api.Msg) { m.Ballot.Node = 1 },
		func(m *api.Msg) { m.Kind = api.MsgAcceptOK },
		func(m *api.Msg) { m.Kind = api.MsgPrepareOK },
		func(m *api.Msg) { m.Kind = api.MsgPre },
		func(m *api.Msg) { m.Kind = api.MsgAccept },
		func(m *api.Msg) { m.Kind = api.MsgPrepare },
		func(m *api.Msg) { m.Kind = api.MsgAsk },
		func(m *api.Msg) { m.Kind = api.MsgSnap },
		func(m *api.Msg) { m.Kind = 77 },
		func(m *api.Msg) { m.Kind = -1 },
		func(m *api.Msg) { m.Kind = api.MsgNo },
		func(m *api.Msg) { m.Kind, m.ID.No, m.Ballot.No = api.MsgNo, 1, 5 },
		func(m *api.Msg) { m.Kind, m.From, m.Ballot.No = api.MsgNo, 5, 5 },
		func(m *api.Msg) { m.Kind, m.ID.No = api.MsgCommit, 1 },
		func(m *api.Msg) { m.Kind, m.From = api.MsgCommit, 5 },
	} {
		x := m
		spoil(&x)
		if l.Hear(x) || l.Phase() != Proposing || len(l.Waiting()) != 3 {
			t.Error(i)
		}
	}
	hear(t, l, false, pre(1, stands(4, id(1), id(2))))
	hear(t, l, false, pre(1, stands(9)))
	is(t, l, Proposing, 0, 2)
	hear(t, l, false, pre(2, stands(4, id(1), id(2)))) // the second one of node 1 tells nothing
	is(t, l, Proposing, 0)
}

func TestCommitted(t *testing.T) {
	for _, l := range []*Lead{fresh(), Take(three, 0, mine, api.Ballot{No: 3})} {
		b := l.Ballot()
		hear(t, l, true, msg(api.MsgCommit, 2, api.Ballot{No: 77, Node: 1}, inst(api.StCommitted, 5, 1, other, stands(8, id(3)))))
		is(t, l, Decided)
		asks(t, l, api.MsgCommit, b, inst(api.StCommitted, b.No, b.Node, other, stands(8, id(3))))
		hear(t, l, false, msg(api.MsgNo, 2, api.Ballot{No: 99}, api.Inst{}))
		hear(t, l, false, msg(api.MsgCommit, 2, api.Ballot{}, inst(api.StCommitted, 5, 1, cmd, stands(1))))
		asks(t, l, api.MsgCommit, b, inst(api.StCommitted, b.No, b.Node, other, stands(8, id(3))))
	}
}

func TestBeaten(t *testing.T) {
	l := Take(three, 2, mine, api.Ballot{No: 3, Node: 1})
	for _, b := range []api.Ballot{{No: 2, Node: 9}, {No: 3, Node: 0}, {No: 3, Node: 1}} {
		hear(t, l, false, msg(api.MsgNo, 1, b, api.Inst{}))
	}
	is(t, l, Asking, 0, 1, 2)
	hear(t, l, true, msg(api.MsgNo, 1, api.Ballot{No: 3, Node: 2}, api.Inst{}))
	is(t, l, Beaten)
	if l.Ballot() != (api.Ballot{No: 3, Node: 2}) || l.Slow() {
		t.Error(l.Ballot())
	}
	if got := l.Ask(); !reflect.DeepEqual(got, api.Msg{Kind: api.MsgAsk, From: 2}) {
		t.Errorf("%+v", got)
	}
	hear(t, l, false, msg(api.MsgNo, 1, api.Ballot{No: 9}, api.Inst{}))
	hear(t, l, false, msg(api.MsgCommit, 1, api.Ballot{No: 9}, api.Inst{}))
	hear(t, l, false, msg(api.MsgPrepareOK, 1, api.Ballot{No: 3, Node: 1}, api.Inst{}))
	is(t, l, Beaten)
	if l.Ballot() != (api.Ballot{No: 3, Node: 2}) {
		t.Error(l.Ballot())
	}
}

// taken is a lead that took mine over, of so many nodes, and heard what the first ones know.
func taken(t *testing.T, c api.Config, known ...api.Inst) *Lead {
	t.Helper()
	l := Take(c, 0, mine, api.Ballot{No: 9, Node: 2})
	is(t, l, Asking, c.Nodes...)
	asks(t, l, api.MsgPrepare, api.Ballot{No: 9, Node: 2}, api.Inst{})
	for i, x := range known {
		hear(t, l, i == len(known)-1, msg(api.MsgPrepareOK, i, api.Ballot{No: 9, Node: 2}, x))
	}
	if len(l.Waiting()) != len(c.Nodes) || l.Ballot() != (api.Ballot{No: 9, Node: 2}) {
		t.Error(l.Waiting(), l.Ballot())
	}
	return l
}

func TestTakingOver(t *testing.T) {
	b, none := api.Ballot{No: 9, Node: 2}, api.Inst{Promise: api.Ballot{No: 5}}
	for i, c := range []struct {
		conf  api.Config
		known []api.Inst
		kind  api.MsgKind
		cmd   api.Command
		attr  api.Attr
	}{
		{three, []api.Inst{none, {}}, api.MsgAccept, api.Command{}, stands(0)},
		{three, []api.Inst{{Cmd: cmd, Attr: stands(3, id(1))}, {}}, api.MsgAccept, api.Command{}, stands(0)},
		{three, []api.Inst{none, inst(api.StAccepted, 1, 1, cmd, stands(3, id(1)))}, api.MsgAccept, cmd, stands(3, id(1))},
		{three, []api.Inst{inst(api.StAccepted, 2, 0, other, stands(7)), inst(api.StAccepted, 1, 1, cmd, stands(3))}, api.MsgAccept, other, stands(7)},
		{three, []api.Inst{inst(api.StAccepted, 1, 0, other, stands(7)), inst(api.StAccepted, 1, 1, cmd, stands(3))}, api.MsgAccept, cmd, stands(3)},
		{three, []api.Inst{inst(api.StPre, 1, 1, other, stands(7)), inst(api.StAccepted, 1, 1, cmd, stands(3))}, api.MsgAccept, cmd, stands(3)},
		{three, []api.Inst{inst(api.StAccepted, 1, 1, other, stands(7)), inst(api.StAccepted, 1, 1, cmd, stands(3))}, api.MsgAccept, other, stands(7)},
		{three, []api.Inst{inst(api.StAccepted, 1, 1, other, stands(7)), inst(api.StCommitted, 1, 1, cmd, stands(3))}, api.MsgAccept, cmd, stands(3)},
		{three, []api.Inst{inst(api.StAccepted, 1, 1, other, stands(7)), inst(api.StPre, 2, 1, cmd, stands(3))}, api.MsgPre, cmd, stands(0)},
		{three, []api.Inst{inst(api.StPre, 0, 0, cmd, stands(3, id(2), id(1))), inst(api.StPre, 0, 0, cmd, stands(3, id(1), id(2)))}, api.MsgAccept, cmd, stands(3, id(2), id(1))},
		{three, []api.Inst{inst(api.StPre, 0, 0, cmd, stands(3)), inst(api.StPre, 0, 0, cmd, stands(4))}, api.MsgPre, cmd, stands(0)},
		{three, []api.Inst{inst(api.StPre, 0, 0, cmd, stands(3)), inst(api.StPre, 0, 0, other, stands(3))}, api.MsgPre, cmd, stands(0)},
		{three, []api.Inst{inst(api.StPre, 0, 0, cmd, stands(3)), none}, api.MsgPre, cmd, stands(0)},
		{three, []api.Inst{none, inst(api.StPre, 0, 0, cmd, stands(3))}, api.MsgPre, cmd, stands(0)},
		{three, []api.Inst{inst(api.StPre, 1, 0, cmd, stands(3)), inst(api.StPre, 1, 0, cmd, stands(3))}, api.MsgPre, cmd, stands(0)},
		{three, []api.Inst{inst(api.StPre, 0, 1, cmd, stands(3)), inst(api.StPre, 0, 1, cmd, stands(3))}, api.MsgPre, cmd, stands(0)},
		{three, []api.Inst{inst(api.StPre, 0, 0, cmd, stands(3)), inst(api.StPre, 1, 0, other, stands(3))}, api.MsgPre, other, stands(0)},
		{five, []api.Inst{inst(api.StPre, 3, 0, cmd, stands(3)), inst(api.StAccepted, 2, 0, other, stands(3)), none}, api.MsgPre, cmd, stands(0)},
		{five, []api.Inst{none, none, inst(api.StAccepted, 0, 0, other, stands(3))}, api.MsgAccept, other, stands(3)},
		{api.Config{Nodes: []int{0}}, []api.Inst{none}, api.MsgAccept, api.Command{}, stands(0)},
	} {
		l := taken(t, c.conf, c.known...)
		asks(t, l, c.kind, b, api.Inst{Cmd: c.cmd, Attr: c.attr})
		if t.Failed() {
			t.Fatal("case", i)
		}
	}
}

// One that proposes again goes on as soon as more than half are heard, alike or not.
func TestProposingAgain(t *testing.T) {
	b := api.Ballot{No: 9, Node: 2}
	for _, a := range []api.Attr{stands(0), stands(3, id(4))} {
		l := taken(t, three, inst(api.StPre, 0, 0, cmd, stands(3)), api.Inst{})
		if l.Phase() != Proposing || l.Slow() {
			t.Fatal(l.Phase())
		}
		hear(t, l, false, msg(api.MsgPreOK, 1, api.Ballot{}, inst(api.StPre, 9, 2, cmd, stands(5))))
		hear(t, l, false, msg(api.MsgPreOK, 1, b, inst(api.StPre, 9, 2, cmd, a)))
		if l.Slow() {
			t.Error("not the first one")
		}
		hear(t, l, true, msg(api.MsgPreOK, 2, b, inst(api.StPre, 9, 2, cmd, a)))
		asks(t, l, api.MsgAccept, b, api.Inst{Cmd: cmd, Attr: a})
		hear(t, l, false, msg(api.MsgAcceptOK, 2, b, api.Inst{}))
		hear(t, l, true, msg(api.MsgAcceptOK, 1, b, api.Inst{}))
		asks(t, l, api.MsgCommit, b, inst(api.StCommitted, 9, 2, cmd, a))
	}
}

func TestOneAlone(t *testing.T) {
	l := New(api.Config{Nodes: []int{0}}, 0, mine, cmd, stands(1))
	hear(t, l, true, pre(0, stands(1)))
	is(t, l, Decided)
}

func TestNothingIsShared(t *testing.T) {
	conf, a := api.Config{Epoch: 1, Nodes: []int{0, 1, 2}}, stands(4, id(1))
	l := New(conf, 0, mine, cmd, a)
	conf.Nodes[0], a.Deps[0] = 9, id(9)
	l.Ask().Inst.Attr.Deps[0] = id(9)
	l.Waiting()[0] = 9
	m, n := pre(0, stands(5, id(1))), pre(1, stands(5, id(2)))
	hear(t, l, false, m)
	m.Inst.Attr.Deps[0] = id(9)
	hear(t, l, true, n)
	n.Inst.Attr.Deps[0] = id(9)
	is(t, l, Accepting, 0, 1, 2)
	l.Ask().Inst.Attr.Deps[0] = id(9)
	asks(t, l, api.MsgAccept, api.Ballot{}, api.Inst{Cmd: cmd, Attr: stands(5, id(1), id(2))})
	c := msg(api.MsgCommit, 1, api.Ballot{}, inst(api.StCommitted, 0, 0, cmd, stands(5, id(1))))
	hear(t, l, true, c)
	c.Inst.Attr.Deps[0] = id(9)
	if l.Ask().Inst.Attr.Deps[0] != id(1) {
		t.Error(l.Ask())
	}
}

// What more than half accepted is what whoever comes behind proposes: of all that a lead may hear then.
func TestWhatMoreThanHalfAccepted(t *testing.T) {
	accepted := inst(api.StAccepted, 3, 1, cmd, stands(6, id(1)))
	others := []api.Inst{{}, inst(api.StPre, 0, 0, other, stands(1)), inst(api.StPre, 2, 2, other, stands(1)), inst(api.StAccepted, 2, 2, other, stands(2)), inst(api.StAccepted, 3, 0, other, stands(2))}
	for _, x := range others {
		for _, y := range others {
			for at := range 3 {
				heard := slices.Insert([]api.Inst{x, y}, at, accepted)
				asks(t, taken(t, five, heard...), api.MsgAccept, api.Ballot{No: 9, Node: 2}, api.Inst{Cmd: cmd, Attr: stands(6, id(1))})
			}
		}
	}
}
