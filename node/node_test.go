package node

import (
	"reflect"
	"slices"
	"strconv"
	"strings"
	"testing"

	"syndic/api"
	"syndic/code"
	"syndic/lead"
	"syndic/record"
)

var three = api.Config{Nodes: []int{0, 1, 2}}

// id is an instance of epoch 0.
func id(node, no int) api.ID { return api.ID{Node: node, No: no} }

// ask is a command of a path.
func ask(client, seq int, op api.Op, path string) api.Command {
	return api.Command{Client: client, Seq: seq, Op: op, Path: path}
}

// stateOf is where a configuration begins, with nothing known.
func stateOf(c api.Config) record.State { return record.Replay(api.Snap{Config: c}, nil) }

// fresh is a node that knows nothing.
func fresh(t *testing.T, me int, c api.Config) *Node {
	t.Helper()
	n, err := New(me, stateOf(c))
	if err != api.OK {
		t.Fatal(err)
	}
	return n
}

// kinds is messages as a text: the kind, and where each goes to.
func kinds(l []api.Msg) string {
	names := []string{"pre", "preok", "accept", "acceptok", "commit", "prepare", "prepareok", "no", "ask", "snap"}
	var s []string
	for _, m := range l {
		s = append(s, names[m.Kind]+strconv.Itoa(m.To))
	}
	return strings.Join(s, " ")
}

// events is events as a text: the kind, and the instance's number.
func events(l []api.Event) string {
	names := []string{"commit", "apply", "reply", "seal", "crash", "start"}
	var s []string
	for _, e := range l {
		s = append(s, names[e.Kind]+strconv.Itoa(e.ID.Node)+"."+strconv.Itoa(e.ID.No))
	}
	return strings.Join(s, " ")
}

// records is records as a text: the instance's number, and status, or the epoch of a seal.
func records(l []code.Record) string {
	var s []string
	for _, r := range l {
		if r.Seal {
			s = append(s, "seal"+strconv.Itoa(r.Snap.Config.Epoch))
			continue
		}
		s = append(s, strconv.Itoa(r.ID.Node)+"."+strconv.Itoa(r.ID.No)+":"+strconv.Itoa(int(r.Inst.Status)))
	}
	return strings.Join(s, " ")
}

// did holds what a node did against what is wanted.
func did(t *testing.T, o Out, msgs, recs, evs string) Out {
	t.Helper()
	if kinds(o.Msgs) != msgs || records(o.Records) != recs || events(o.Events) != evs {
		t.Errorf("messages %q, records %q, events %q", kinds(o.Msgs), records(o.Records), events(o.Events))
	}
	return o
}

// group is nodes, and what flies between them.
type group struct {
	nodes  []*Node
	flying []api.Msg
	told   []api.Event
}

// grouped is so many nodes of a configuration.
func grouped(t *testing.T, c api.Config, n int) *group {
	g := &group{}
	for i := range n {
		g.nodes = append(g.nodes, fresh(t, i, c))
	}
	return g
}

// takes lets fly and be told what a node did.
func (g *group) takes(o Out) {
	g.flying = append(g.flying, o.Msgs...)
	g.told = append(g.told, o.Events...)
}

// settle delivers till nothing flies; what goes to one that is lost is lost.
func (g *group) settle(lost ...int) {
	for len(g.flying) > 0 {
		m := g.flying[0]
		g.flying = g.flying[1:]
		if m.To < len(g.nodes) && !slices.Contains(lost, m.To) {
			g.takes(g.nodes[m.To].Deliver(m))
		}
	}
}

func TestNewErrs(t *testing.T) {
	for _, s := range []api.Snap{{}, {Config: api.Config{Nodes: []int{2, 1}}}, {Config: three, Paths: []api.Entry{{Path: "/a"}}}} {
		if n, err := New(0, record.Replay(s, nil)); n != nil || err != api.ErrArg {
			t.Error(n, err)
		}
	}
	n := fresh(t, 5, api.Config{Epoch: 4, Nodes: []int{1}})
	if n.Epoch() != 4 || len(n.Book().IDs()) != 0 || n.Engine().Start().Config.Epoch != 4 {
		t.Error(n.Epoch())
	}
	did(t, n.Start(), "", "", "")
	did(t, n.Tick(), "", "", "")
}

func TestOneAlone(t *testing.T) {
	n := fresh(t, 4, api.Config{Nodes: []int{4}})
	c := ask(1, 1, api.OpCreate, "/a")
	o := did(t, n.Call(c), "", "4.0:1 4.0:3", "commit4.0 apply4.0 reply4.0")
	reply := api.Reply{Version: 1}
	attr := api.Attr{Seq: 1, Deps: []api.ID{}}
	want := []api.Event{
		{Kind: api.EvCommit, Node: 4, ID: id(4, 0), Cmd: c, Attr: attr},
		{Kind: api.EvApply, Node: 4, ID: id(4, 0), Cmd: c, Reply: reply},
		{Kind: api.EvReply, Node: 4, ID: id(4, 0), Cmd: c, Reply: reply},
	}
	if !reflect.DeepEqual(o.Events, want) {
		t.Errorf("%+v", o.Events)
	}
	did(t, n.Call(c), "", "4.1:1 4.1:3", "commit4.1 apply4.1 reply4.1")
	did(t, n.Recover(id(4, 0)), "", "", "")
	did(t, n.Recover(id(4, 7)), "", "4.7:0 4.7:2 4.7:3", "commit4.7 apply4.7 reply4.7")
	if x := n.Book().Get(id(4, 7)); x.Cmd != (api.Command{}) || x.Voted != (api.Ballot{No: 1, Node: 4}) {
		t.Errorf("%+v", x)
	}
}

func TestAllAlike(t *testing.T) {
	n := fresh(t, 1, three)
	a, b := fresh(t, 0, three), fresh(t, 2, three)
	c := ask(1, 1, api.OpCreate, "/a")
	o := did(t, n.Call(c), "pre0 pre2", "1.0:1", "")
	for _, m := range o.Msgs {
		if m.From != 1 || m.ID != id(1, 0) || m.Ballot != (api.Ballot{Node: 1}) || m.Inst.Cmd != c || m.Inst.Attr.Seq != 1 {
			t.Errorf("%+v", m)
		}
	}
	x := did(t, a.Deliver(o.Msgs[0]), "preok1", "1.0:1", "")
	y := did(t, b.Deliver(o.Msgs[1]), "preok1", "1.0:1", "")
	did(t, n.Deliver(x.Msgs[0]), "", "", "")
	did(t, n.Deliver(x.Msgs[0]), "", "", "")
	o = did(t, n.Deliver(y.Msgs[0]), "commit0 commit2", "1.0:3", "commit1.0 apply1.0 reply1.0")
	if len(n.leads) != 0 {
		t.Error("a lead that is decided is not forgotten")
	}
	did(t, a.Deliver(o.Msgs[0]), "", "1.0:3", "commit1.0 apply1.0")
	did(t, a.Deliver(o.Msgs[0]), "", "", "")
	did(t, b.Deliver(o.Msgs[1]), "", "1.0:3", "commit1.0 apply1.0")
	did(t, n.Tick(), "", "", "")
}

func TestTwoOfThree(t *testing.T) {
	n, a := fresh(t, 0, three), fresh(t, 1, three)
	o := n.Call(ask(1, 1, api.OpCreate, "/a"))
	did(t, n.Tick(), "pre1 pre2", "", "")
	n.Deliver(a.Deliver(o.Msgs[0]).Msgs[0])
	o = did(t, n.Tick(), "accept1 accept2", "0.0:2", "")
	did(t, n.Tick(), "accept1 accept2", "", "")
	ok := did(t, a.Deliver(o.Msgs[0]), "acceptok0", "0.0:2", "")
	did(t, n.Deliver(ok.Msgs[0]), "commit1 commit2", "0.0:3", "commit0.0 apply0.0 reply0.0")
	did(t, a.Deliver(o.Msgs[0]), "acceptok0", "", "") // it voted so already: nothing is kept
}

func TestAcceptingOnceMore(t *testing.T) {
	n := fresh(t, 1, three)
	m := api.Msg{Kind: api.MsgAccept, From: 0, To: 1, ID: id(0, 0), Inst: api.Inst{Cmd: ask(1, 1, api.OpGet, "/a")}}
	did(t, n.Deliver(m), "acceptok0", "0.0:2", "")
	did(t, n.Deliver(m), "acceptok0", "", "")
}

func TestTickGoesThroughLeadsByIDs(t *testing.T) {
	n := fresh(t, 2, three)
	for i := range 12 {
		n.Call(ask(i, 1, api.OpGet, "/a"))
	}
	n.Recover(id(1, 3))
	o := n.Tick()
	var order []api.ID
	for i := 0; i < len(o.Msgs); i += 2 {
		order = append(order, o.Msgs[i].ID)
	}
	want := []api.ID{id(2, 0), id(2, 1), id(2, 2), id(1, 3), id(2, 3), id(2, 4), id(2, 5), id(2, 6), id(2, 7), id(2, 8), id(2, 9), id(2, 10), id(2, 11)}
	if !slices.Equal(order, want) || o.Msgs[6].Kind != api.MsgPrepare {
		t.Error(order)
	}
}

func TestWhatMattersIsLinked(t *testing.T) {
	n, a := fresh(t, 0, three), fresh(t, 1, three)
	a.Call(ask(2, 1, api.OpCreate, "/a"))
	a.Call(ask(3, 1, api.OpGet, "/b"))
	o := n.Call(ask(1, 1, api.OpCreate, "/a"))
	x := did(t, a.Deliver(o.Msgs[0]), "preok0", "0.0:1", "").Msgs[0]
	if x.Inst.Attr.Seq != 2 || !slices.Equal(x.Inst.Attr.Deps, []api.ID{id(1, 0)}) {
		t.Errorf("%+v", x)
	}
	o = did(t, n.Deliver(x), "accept1 accept2", "0.0:2", "")
	o = n.Deliver(a.Deliver(o.Msgs[0]).Msgs[0])
	did(t, o, "commit1 commit2", "0.0:3", "commit0.0") // it waits for the other one
	if !slices.Equal(n.Engine().Missing(), []api.ID{id(1, 0)}) {
		t.Error(n.Engine().Missing())
	}
}

func TestBeatenAndRecover(t *testing.T) {
	n, a, b := fresh(t, 0, three), fresh(t, 1, three), fresh(t, 2, three)
	c := ask(1, 1, api.OpCreate, "/a")
	o := n.Call(c)
	a.Deliver(o.Msgs[0])
	over := did(t, b.Recover(id(0, 0)), "prepare0 prepare1", "0.0:0", "")
	if over.Msgs[0].Ballot != (api.Ballot{No: 1, Node: 2}) {
		t.Error(over.Msgs[0])
	}
	pok := did(t, a.Deliver(over.Msgs[1]), "prepareok2", "0.0:1", "")
	pre := did(t, b.Deliver(pok.Msgs[0]), "pre0 pre1", "0.0:1", "")
	no := did(t, b.Deliver(o.Msgs[1]), "no0", "", "")
	did(t, n.Deliver(no.Msgs[0]), "", "", "")
	if n.leads[id(0, 0)].Phase() != lead.Beaten {
		t.Error("not beaten")
	}
	did(t, n.Tick(), "", "", "")
	acc := did(t, b.Deliver(a.Deliver(pre.Msgs[1]).Msgs[0]), "accept0 accept1", "0.0:2", "")
	again := did(t, n.Recover(id(0, 0)), "prepare1 prepare2", "0.0:1", "")
	if again.Msgs[0].Ballot != (api.Ballot{No: 2, Node: 0}) {
		t.Error(again.Msgs[0])
	}
	end := did(t, b.Deliver(a.Deliver(acc.Msgs[1]).Msgs[0]), "commit0 commit1", "0.0:3", "commit0.0 apply0.0")
	know := did(t, b.Deliver(again.Msgs[1]), "commit0", "", "")
	did(t, n.Deliver(know.Msgs[0]), "commit1 commit2", "0.0:3", "commit0.0 apply0.0 reply0.0")
	did(t, n.Deliver(end.Msgs[0]), "", "", "")
}

func TestRecoverIsNothing(t *testing.T) {
	n := fresh(t, 1, three)
	n.Deliver(api.Msg{Kind: api.MsgCommit, From: 0, To: 1, ID: id(0, 3)})
	for _, x := range []api.ID{{Epoch: 1}, {Epoch: -1}, id(3, 0), id(-1, 0), id(0, -1), id(0, 1<<40+1), id(0, 3)} {
		did(t, n.Recover(x), "", "", "")
	}
	out := fresh(t, 5, three)
	did(t, out.Recover(id(0, 0)), "", "", "")
	did(t, out.Call(ask(1, 1, api.OpGet, "/a")), "", "", "")
}

func TestWhatIsNotDelivered(t *testing.T) {
	for kind := api.MsgPre; kind <= api.MsgSnap+1; kind++ {
		n := fresh(t, 1, three)
		n.Call(ask(1, 1, api.OpGet, "/a"))
		for epoch := -1; epoch < 3; epoch++ {
			m := api.Msg{Kind: kind, From: 0, To: 1, ID: api.ID{Epoch: epoch, Node: 1}, Snap: api.Snap{Config: api.Config{Epoch: 3, Nodes: []int{1}}}}
			for _, at := range [][2]int{{0, 0}, {0, 2}, {1, 1}, {-1, 1}, {32, 1}, {1, 0}} {
				m.From, m.To = at[0], at[1]
				did(t, n.Deliver(m), "", "", "")
			}
		}
		for _, m := range []api.Msg{{From: 7, To: 1, ID: id(1, 0)}, {From: 0, To: 1, ID: id(4, 0)}, {From: 0, To: 1, ID: id(1, -1)}, {From: 0, To: 1, ID: id(1, 0), Ballot: api.Ballot{No: -1}}} {
			m.Kind = kind
			did(t, n.Deliver(m), "", "", "")
		}
		if len(n.leads) != 1 || n.Epoch() != 0 || len(n.Book().IDs()) != 1 {
			t.Error(kind)
		}
	}
}

func TestOtherEpochs(t *testing.T) {
	c := api.Config{Epoch: 3, Nodes: []int{0, 1}}
	start := api.Snap{Config: c, Paths: []api.Entry{{Path: "/a", Version: 2}}, Sessions: []api.Session{{Client: 1, Seq: 1}}}
	n, err := New(1, record.Replay(start, nil))
	if err != api.OK {
		t.Fatal(err)
	}
	for kind := api.MsgKind(-1); kind <= api.MsgSnap+1; kind++ {
		lesser := api.Msg{Kind: kind, From: 9, To: 1, ID: api.ID{Epoch: 2, Node: 77, No: -1}}
		greater := lesser
		greater.ID.Epoch = 4
		snap := api.Msg{Kind: api.MsgSnap, From: 1, To: 9, Snap: start}
		begs := api.Msg{Kind: api.MsgAsk, From: 1, To: 9, ID: api.ID{Epoch: 3}}
		var wantLesser, wantGreater []api.Msg
		if kind != api.MsgSnap {
			wantLesser = []api.Msg{snap}
		}
		if kind != api.MsgSnap && kind != api.MsgAsk {
			wantGreater = []api.Msg{begs}
		}
		if o := n.Deliver(lesser); !reflect.DeepEqual(o, Out{Msgs: wantLesser}) {
			t.Errorf("%d: %+v", kind, o)
		}
		if o := n.Deliver(greater); !reflect.DeepEqual(o, Out{Msgs: wantGreater}) {
			t.Errorf("%d: %+v", kind, o)
		}
	}
	did(t, n.Deliver(api.Msg{Kind: api.MsgAsk, From: 0, To: 1, ID: api.ID{Epoch: 3}}), "", "", "")
}

func TestSnaps(t *testing.T) {
	n := fresh(t, 1, three)
	n.Call(ask(1, 1, api.OpCreate, "/b"))
	next := api.Snap{Config: api.Config{Epoch: 5, Nodes: []int{1, 7}}, Paths: []api.Entry{{Path: "/a", Version: 2}}}
	m := api.Msg{Kind: api.MsgSnap, From: 30, To: 1, Snap: next}
	for _, spoil := range []func(s *api.Snap){
		func(s *api.Snap) { s.Config.Epoch = 0 },
		func(s *api.Snap) { s.Config.Epoch = -1 },
		func(s *api.Snap) { s.Config.Epoch = api.MaxEpoch + 1 },
		func(s *api.Snap) { s.Config.Nodes = nil },
		func(s *api.Snap) { s.Paths = []api.Entry{{Path: "/", Version: 1}} },
		func(s *api.Snap) { s.Sessions = []api.Session{{}} },
	} {
		x := m
		spoil(&x.Snap)
		did(t, n.Deliver(x), "", "", "")
	}
	o := did(t, n.Deliver(m), "", "seal5", "seal0.0")
	if !record.Same(o.Records[0].Snap, next) || !reflect.DeepEqual(o.Events[0], api.Event{Kind: api.EvSeal, Node: 1, Conf: next.Config}) {
		t.Errorf("%+v", o)
	}
	if n.Epoch() != 5 || len(n.Book().IDs()) != 0 || len(n.leads) != 0 || n.next != 0 || !record.Same(n.Engine().Start(), next) {
		t.Error("another epoch:", n.Epoch(), n.next)
	}
	did(t, n.Deliver(m), "", "", "")
	did(t, n.Call(ask(1, 1, api.OpGet, "/a")), "pre7", "1.0:1", "")
}

func TestReplaced(t *testing.T) {
	g := grouped(t, three, 5)
	g.takes(g.nodes[0].Call(ask(1, 1, api.OpCreate, "/a")))
	g.settle()
	g.takes(g.nodes[2].Call(api.Command{Client: 2, Seq: 1, Op: api.OpReplace, A: 2, B: 4}))
	g.settle()
	for i, want := range []int{1, 1, 1, 0, 1} {
		if g.nodes[i].Epoch() != want {
			t.Error(i, g.nodes[i].Epoch())
		}
	}
	for _, i := range []int{0, 1, 2, 4} {
		s := g.nodes[i].Engine().Start()
		if !record.Same(s, g.nodes[0].Engine().Start()) || len(s.Paths) != 1 || !slices.Equal(s.Config.Nodes, []int{0, 1, 4}) {
			t.Error(i, s)
		}
	}
	did(t, g.nodes[2].Call(ask(3, 1, api.OpGet, "/a")), "", "", "")
	old := api.Msg{Kind: api.MsgPre, From: 2, To: 0, ID: id(2, 9), Ballot: api.Ballot{Node: 2}}
	did(t, g.nodes[0].Deliver(old), "snap2", "", "")
	g.takes(g.nodes[4].Call(ask(3, 1, api.OpGet, "/a")))
	g.settle()
	if last := g.told[len(g.told)-1]; last.Kind != api.EvApply || last.Reply.Version != 1 || last.ID.Epoch != 1 {
		t.Errorf("%+v", last)
	}
}

func TestSealIsTold(t *testing.T) {
	n := fresh(t, 0, three)
	add := api.Command{Client: 2, Seq: 1, Op: api.OpReplace, A: 1, B: 9}
	m := api.Msg{Kind: api.MsgCommit, From: 2, To: 0, ID: id(2, 0), Inst: api.Inst{Cmd: add}}
	n.Call(ask(1, 1, api.OpGet, "/a"))
	o := did(t, n.Deliver(m), "snap2 snap9", "2.0:3 seal1", "commit2.0 apply2.0 seal0.0")
	want := api.Snap{Config: api.Config{Epoch: 1, Nodes: []int{0, 2, 9}}, Sessions: []api.Session{{Client: 2, Seq: 1}}}
	for _, x := range o.Msgs {
		if x.From != 0 || x.ID != id(0, 0) || !record.Same(x.Snap, want) || !record.Same(o.Records[1].Snap, want) {
			t.Errorf("%+v", x)
		}
	}
	if len(n.leads) != 0 || n.next != 0 {
		t.Error("leads:", n.leads)
	}
	gone := fresh(t, 1, three)
	m.To = 1
	did(t, gone.Deliver(m), "snap0 snap2 snap9", "2.0:3 seal1", "commit2.0 apply2.0 seal0.0")
}

func TestOwnSealForgetsLeads(t *testing.T) {
	n := fresh(t, 3, api.Config{Nodes: []int{3}})
	o := did(t, n.Call(api.Command{Client: 2, Seq: 1, Op: api.OpAdd, A: 1}), "snap1", "3.0:1 3.0:3 seal1", "commit3.0 apply3.0 reply3.0 seal0.0")
	if n.Epoch() != 1 || o.Msgs[0].Snap.Config.Epoch != 1 {
		t.Error(n.Epoch())
	}
	did(t, n.Call(ask(1, 1, api.OpGet, "/a")), "pre1", "3.0:1", "")
}

func TestStartDoesWhatIsDecided(t *testing.T) {
	s := stateOf(three)
	put := func(x api.ID, i api.Inst) { s = record.Add(s, code.Record{ID: x, Inst: i}) }
	put(id(0, 3), api.Inst{Status: api.StCommitted, Cmd: ask(1, 1, api.OpCreate, "/a"), Attr: api.Attr{Seq: 1}})
	put(id(1, 1), api.Inst{Status: api.StCommitted, Cmd: ask(2, 1, api.OpGet, "/a"), Attr: api.Attr{Seq: 2, Deps: []api.ID{id(0, 3)}}})
	put(id(2, 1), api.Inst{Status: api.StAccepted, Promise: api.Ballot{No: 4}, Cmd: ask(3, 1, api.OpGet, "/a")})
	n, err := New(0, s)
	if err != api.OK || !slices.Equal(n.Book().IDs(), s.IDs) || !reflect.DeepEqual(n.Book().Get(id(2, 1)), s.Of[id(2, 1)]) {
		t.Fatal(err)
	}
	if len(n.Engine().Done()) != 0 {
		t.Error("done ahead of the start")
	}
	did(t, n.Start(), "", "", "apply0.3 reply0.3 apply1.1")
	did(t, n.Start(), "", "", "")
	o := did(t, n.Call(ask(4, 1, api.OpSet, "/a")), "pre1 pre2", "0.4:1", "")
	if !slices.Equal(o.Msgs[0].Inst.Attr.Deps, []api.ID{id(1, 1), id(2, 1), id(0, 3)}) {
		t.Error(o.Msgs[0].Inst.Attr)
	}
	o = did(t, n.Recover(id(2, 1)), "prepare1 prepare2", "2.1:2", "")
	if o.Msgs[0].Ballot != (api.Ballot{No: 5, Node: 0}) {
		t.Error(o.Msgs[0].Ballot)
	}
}

func TestStartSeals(t *testing.T) {
	s := record.Add(stateOf(three), code.Record{ID: id(0, 0), Inst: api.Inst{Status: api.StCommitted, Cmd: api.Command{Client: 1, Seq: 1, Op: api.OpRemove, A: 1}}})
	n, _ := New(0, s)
	did(t, n.Start(), "snap2", "seal1", "apply0.0 reply0.0 seal0.0")
	if n.Epoch() != 1 {
		t.Error(n.Epoch())
	}
}

// A commit that comes while the node leads the instance: it is decided by that, and told.
func TestCommitOfWhatIsLed(t *testing.T) {
	n := fresh(t, 0, three)
	n.Call(ask(1, 1, api.OpGet, "/"))
	m := api.Msg{Kind: api.MsgCommit, From: 1, To: 0, ID: id(0, 0), Ballot: api.Ballot{No: 3, Node: 1}, Inst: api.Inst{Status: api.StCommitted, Voted: api.Ballot{No: 3, Node: 1}, Cmd: ask(9, 9, api.OpList, "/"), Attr: api.Attr{Seq: 4}}}
	o := did(t, n.Deliver(m), "commit1 commit2", "0.0:3", "commit0.0 apply0.0 reply0.0")
	if o.Msgs[1].Inst.Cmd != ask(9, 9, api.OpList, "/") || len(n.leads) != 0 {
		t.Errorf("%+v", o.Msgs[1])
	}
}

// What a node tells itself comes behind what it tells all others.
func TestOwnBookIsHeardLast(t *testing.T) {
	n := fresh(t, 1, three)
	did(t, n.Deliver(api.Msg{Kind: api.MsgCommit, From: 0, To: 1, ID: id(1, 0)}), "", "1.0:3", "commit1.0 apply1.0 reply1.0")
	did(t, n.Call(ask(1, 1, api.OpGet, "/")), "pre0 pre2 commit0 commit2", "", "")
}

func TestNothingIsShared(t *testing.T) {
	n := fresh(t, 0, three)
	n.Call(ask(1, 1, api.OpCreate, "/a"))
	o := n.Call(ask(2, 1, api.OpCreate, "/a"))
	o.Msgs[0].Inst.Attr.Deps[0] = id(7, 7)
	if o.Msgs[1].Inst.Attr.Deps[0] != id(0, 0) || o.Records[0].Inst.Attr.Deps[0] != id(0, 0) {
		t.Error("two lists of one answer are one")
	}
	o.Records[0].Inst.Attr.Deps[0] = id(7, 7)
	if n.Book().Get(id(0, 1)).Attr.Deps[0] != id(0, 0) || n.Tick().Msgs[2].Inst.Attr.Deps[0] != id(0, 0) {
		t.Error("what is kept is handed out")
	}
	m := api.Msg{Kind: api.MsgCommit, From: 2, To: 0, ID: id(2, 0), Inst: api.Inst{Cmd: ask(3, 1, api.OpList, "/"), Attr: api.Attr{Deps: []api.ID{id(2, 1)}}}}
	o = n.Deliver(m)
	o.Events[0].Attr.Deps[0], o.Records[0].Inst.Attr.Deps[0], m.Inst.Attr.Deps[0] = id(7, 7), id(7, 7), id(8, 8)
	if !slices.Equal(n.Engine().Missing(), []api.ID{id(2, 1)}) || n.Book().Get(id(2, 0)).Attr.Deps[0] != id(2, 1) {
		t.Error(n.Engine().Missing())
	}
	one := fresh(t, 0, api.Config{Nodes: []int{0}})
	one.Call(ask(1, 1, api.OpCreate, "/a"))
	o = one.Call(ask(1, 2, api.OpList, "/"))
	o.Events[1].Reply.Names[0] = "z"
	if o.Events[2].Reply.Names[0] != "a" {
		t.Error("two events share names")
	}
	snap := api.Msg{Kind: api.MsgSnap, From: 1, To: 0, Snap: api.Snap{Config: api.Config{Epoch: 2, Nodes: []int{0, 1}}}}
	o = n.Deliver(snap)
	snap.Snap.Config.Nodes[0], o.Records[0].Snap.Config.Nodes[0], o.Events[0].Conf.Nodes[0] = 9, 9, 9
	if !slices.Equal(n.Engine().Start().Config.Nodes, []int{0, 1}) || len(n.Call(ask(1, 1, api.OpGet, "/")).Msgs) != 1 {
		t.Error(n.Engine().Start())
	}
}

// It never votes in an epoch that it left.
func TestNoVotesInAnEpochThatWasLeft(t *testing.T) {
	n := fresh(t, 1, three)
	n.Deliver(api.Msg{Kind: api.MsgSnap, From: 0, To: 1, Snap: api.Snap{Config: api.Config{Epoch: 1, Nodes: []int{0, 1, 2}}}})
	for kind := api.MsgPre; kind <= api.MsgNo; kind++ {
		o := n.Deliver(api.Msg{Kind: kind, From: 0, To: 1, ID: id(0, 0), Ballot: api.Ballot{No: 5}})
		did(t, o, "snap0", "", "")
	}
	did(t, n.Recover(id(0, 0)), "", "", "")
	if len(n.Book().IDs()) != 0 {
		t.Error(n.Book().IDs())
	}
}
