package apply

import (
	"reflect"
	"slices"
	"strings"
	"testing"

	"syndic/api"
	"syndic/ids"
)

// start is where the engines of most tests begin.
func start() api.Snap {
	return api.Snap{
		Config:   api.Config{Epoch: 2, Nodes: []int{0, 1, 2}},
		Paths:    []api.Entry{{Path: "/a", Value: "v", Version: 3}},
		Sessions: []api.Session{{Client: 5, Seq: 7, Reply: api.Reply{Names: []string{"x", "y"}}}},
	}
}

// begun is an engine from there on.
func begun(t *testing.T) *Engine {
	t.Helper()
	e, err := New(start())
	if err != api.OK {
		t.Fatal(err)
	}
	return e
}

// id is an instance of the epoch.
func id(node, no int) api.ID { return api.ID{Epoch: 2, Node: node, No: no} }

// stands is an attribute.
func stands(seq int, deps ...api.ID) api.Attr { return api.Attr{Seq: seq, Deps: deps} }

// ask is a command of a path.
func ask(client, seq int, op api.Op, path, value string) api.Command {
	return api.Command{Client: client, Seq: seq, Op: op, Path: path, Value: value}
}

// member is a command of members.
func member(client, seq int, op api.Op, a, b int) api.Command {
	return api.Command{Client: client, Seq: seq, Op: op, A: a, B: b}
}

// told is steps as a text: each ID, and the reply's error and version.
func told(l []Step) string {
	var s []string
	for _, x := range l {
		s = append(s, ids.Show(x.ID)+":"+x.Reply.Err.Error()+":"+string(rune('0'+x.Reply.Version)))
	}
	return strings.ReplaceAll(strings.Join(s, " "), "error ", "")
}

// runs holds the steps of a run against what is wanted.
func runs(t *testing.T, e *Engine, want string) {
	t.Helper()
	if got := told(e.Run()); got != want {
		t.Errorf("run: %s, not %s", got, want)
	}
}

func TestNew(t *testing.T) {
	e := begun(t)
	if !reflect.DeepEqual(e.Start(), start()) || e.Sealed() || len(e.Done()) != 0 || len(e.Missing()) != 0 || !reflect.DeepEqual(e.Snap(), api.Snap{}) {
		t.Error(e)
	}
	runs(t, e, "")
	for i, spoil := range []func(s *api.Snap){
		func(s *api.Snap) { s.Config.Nodes = nil },
		func(s *api.Snap) { s.Config.Nodes = []int{1, 1} },
		func(s *api.Snap) { s.Config.Epoch = -1 },
		func(s *api.Snap) { s.Paths[0].Version = 0 },
		func(s *api.Snap) { s.Paths[0].Path = "/a/b" },
		func(s *api.Snap) { s.Sessions[0].Seq = 0 },
		func(s *api.Snap) { s.Sessions = append(s.Sessions, s.Sessions[0]) },
	} {
		s := start()
		spoil(&s)
		if e, err := New(s); e != nil || err != api.ErrArg {
			t.Error(i, e, err)
		}
	}
}

func TestDecide(t *testing.T) {
	e := begun(t)
	if !e.Decide(id(1, 1), ask(1, 1, api.OpSet, "/a", "w"), stands(1)) {
		t.Error("new")
	}
	if e.Decide(id(1, 1), ask(1, 2, api.OpSet, "/a", "z"), stands(9)) {
		t.Error("twice")
	}
	for _, epoch := range []int{-1, 0, 1, 3} {
		if e.Decide(api.ID{Epoch: epoch}, ask(2, 1, api.OpSet, "/a", "z"), stands(1)) {
			t.Error("epoch", epoch)
		}
	}
	runs(t, e, "2.1.1:0:4")
	if e.Decide(id(1, 1), ask(1, 3, api.OpSet, "/a", "z"), stands(1)) {
		t.Error("one that is done")
	}
	runs(t, e, "")
	if !slices.Equal(e.Done(), []api.ID{id(1, 1)}) {
		t.Error(e.Done())
	}
}

func TestAtMost1024(t *testing.T) {
	e := begun(t)
	for i := range 1024 {
		if !e.Decide(id(0, i), ask(i, 100, api.OpGet, "/a", ""), stands(1)) {
			t.Fatal(i)
		}
	}
	if e.Decide(id(0, 1024), ask(1, 1, api.OpGet, "/a", ""), stands(1)) {
		t.Error("one more")
	}
	if got := len(e.Run()); got != 1024 || len(e.Done()) != 1024 || e.Decide(id(0, 1024), ask(1, 1, api.OpGet, "/a", ""), stands(1)) {
		t.Error(got)
	}
}

func TestRunFollowsWhatTheyDependOn(t *testing.T) {
	e := begun(t)
	e.Decide(id(0, 0), ask(1, 1, api.OpSet, "/a", "late"), stands(2, id(2, 5), id(1, 4)))
	e.Decide(id(2, 9), ask(2, 1, api.OpCreate, "/b", ""), stands(1))
	runs(t, e, "2.2.9:0:1")
	if !slices.Equal(e.Missing(), []api.ID{id(1, 4), id(2, 5)}) {
		t.Error(e.Missing())
	}
	e.Decide(id(2, 5), ask(3, 1, api.OpSet, "/a", "first"), stands(1, id(0, 0), id(2, 5)))
	runs(t, e, "")
	if !slices.Equal(e.Missing(), []api.ID{id(1, 4)}) {
		t.Error(e.Missing())
	}
	e.Decide(id(1, 4), api.Command{}, stands(0))
	runs(t, e, "2.1.4:0:0 2.2.5:0:4 2.0.0:0:5")
	if len(e.Missing()) != 0 || !slices.Equal(e.Done(), []api.ID{id(2, 9), id(1, 4), id(2, 5), id(0, 0)}) {
		t.Error(e.Missing(), e.Done())
	}
}

func TestStepsTellAll(t *testing.T) {
	e := begun(t)
	get := ask(1, 1, api.OpGet, "/a", "")
	e.Decide(id(0, 1), get, stands(1))
	e.Decide(id(0, 2), ask(5, 7, api.OpGet, "/a", ""), stands(1))
	e.Decide(id(0, 3), ask(5, 6, api.OpGet, "/a", ""), stands(1))
	e.Decide(id(0, 4), ask(-1, 6, api.OpGet, "/a", ""), stands(1))
	want := []Step{
		{id(0, 1), get, api.Reply{Value: "v", Version: 3}},
		{id(0, 2), ask(5, 7, api.OpGet, "/a", ""), api.Reply{Names: []string{"x", "y"}}},
		{id(0, 3), ask(5, 6, api.OpGet, "/a", ""), api.Reply{Err: api.ErrOld}},
		{id(0, 4), ask(-1, 6, api.OpGet, "/a", ""), api.Reply{Err: api.ErrArg}},
	}
	if got := e.Run(); !reflect.DeepEqual(got, want) {
		t.Errorf("%+v", got)
	}
}

func TestSealed(t *testing.T) {
	e := begun(t)
	e.Decide(id(0, 0), ask(1, 1, api.OpCreate, "/b", "w"), stands(1))
	e.Decide(id(0, 1), member(2, 1, api.OpReplace, 1, 9), stands(2, id(0, 0)))
	e.Decide(id(0, 2), ask(3, 1, api.OpCreate, "/c", "w"), stands(3, id(0, 1)))
	runs(t, e, "2.0.0:0:1 2.0.1:0:0")
	want := api.Snap{
		Config:   api.Config{Epoch: 3, Nodes: []int{0, 2, 9}},
		Paths:    []api.Entry{{Path: "/a", Value: "v", Version: 3}, {Path: "/b", Value: "w", Version: 1}},
		Sessions: []api.Session{{Client: 1, Seq: 1, Reply: api.Reply{Version: 1}}, {Client: 2, Seq: 1}, start().Sessions[0]},
	}
	if !e.Sealed() || !reflect.DeepEqual(e.Snap(), want) || !reflect.DeepEqual(e.Start(), start()) {
		t.Errorf("%v %+v", e.Sealed(), e.Snap())
	}
	runs(t, e, "")
	if !e.Decide(id(0, 3), ask(4, 1, api.OpCreate, "/d", "w"), stands(1)) {
		t.Error("it may be decided, though nothing is done any more")
	}
	runs(t, e, "")
	if !slices.Equal(e.Done(), []api.ID{id(0, 0), id(0, 1)}) || !reflect.DeepEqual(e.Snap(), want) {
		t.Error(e.Done())
	}
}

func TestWhatDoesNotSeal(t *testing.T) {
	e := begun(t)
	for i, c := range []struct {
		x    api.Command
		want string
	}{
		{member(2, 1, api.OpAdd, 1, 0), "3:0"},
		{member(2, 2, api.OpAdd, 32, 0), "1:0"},
		{member(2, 3, api.OpRemove, 7, 0), "2:0"},
		{member(-1, 4, api.OpAdd, 7, 0), "1:0"},
		{member(2, 0, api.OpAdd, 7, 0), "1:0"},
		{member(5, 7, api.OpAdd, 7, 0), "0:0"},
		{member(5, 6, api.OpAdd, 7, 0), "6:0"},
		{member(2, 3, api.OpAdd, 7, 0), "2:0"},
		{ask(2, 4, 77, "/a", ""), "1:0"},
		{member(2, 5, api.OpNone, 7, 0), "0:0"},
	} {
		e.Decide(id(0, i), c.x, stands(1))
		runs(t, e, ids.Show(id(0, i))+":"+c.want)
		if e.Sealed() || !reflect.DeepEqual(e.Snap(), api.Snap{}) {
			t.Fatal(i)
		}
	}
	e.Decide(id(1, 0), member(2, 5, api.OpAdd, 7, 0), stands(1))
	runs(t, e, "2.1.0:0:0")
	if !e.Sealed() || !slices.Equal(e.Snap().Config.Nodes, []int{0, 1, 2, 7}) {
		t.Error(e.Snap())
	}
}

func TestNothingIsShared(t *testing.T) {
	s := start()
	e, _ := New(s)
	s.Config.Nodes[0], s.Paths[0].Path, s.Sessions[0].Reply.Names[0] = 9, "/z", "z"
	e.Start().Config.Nodes[0], e.Start().Paths[0].Path, e.Start().Sessions[0].Reply.Names[0] = 9, "/z", "z"
	if !reflect.DeepEqual(e.Start(), start()) {
		t.Error(e.Start())
	}
	a := stands(1, id(0, 1))
	e.Decide(id(0, 2), ask(1, 1, api.OpList, "/", ""), a)
	a.Deps[0] = id(9, 9)
	if !slices.Equal(e.Missing(), []api.ID{id(0, 1)}) {
		t.Error(e.Missing())
	}
	e.Decide(id(0, 1), ask(2, 1, api.OpList, "/", ""), stands(1))
	e.Run()[0].Reply.Names[0] = "z"
	e.Decide(id(0, 3), ask(2, 1, api.OpList, "/", ""), stands(1))
	if l := e.Run(); l[0].Reply.Names[0] != "a" {
		t.Error(l)
	}
	e.Done()[0] = id(9, 9)
	e.Decide(id(0, 4), member(3, 1, api.OpRemove, 0, 0), stands(1))
	e.Run()
	e.Snap().Config.Nodes[0], e.Snap().Paths[0].Path = 9, "/z"
	if e.Done()[0] != id(0, 1) || e.Snap().Config.Nodes[0] != 1 || e.Snap().Paths[0].Path != "/a" {
		t.Error(e.Done(), e.Snap())
	}
}

// known is a decision, as it comes in to Decide.
type known struct {
	id   api.ID
	cmd  api.Command
	attr api.Attr
}

// Who decides the same does what matters in the same order, answers the same, and seals the same: in whatever order it hears of it.
func TestSameDecisionsDoTheSame(t *testing.T) {
	l := []known{
		{id(0, 0), ask(1, 1, api.OpCreate, "/b", "0"), stands(1)},
		{id(1, 0), ask(2, 1, api.OpSet, "/b", "1"), stands(2, id(0, 0), id(2, 0))},
		{id(2, 0), ask(3, 1, api.OpSet, "/b", "2"), stands(2, id(0, 0), id(1, 0))},
		{id(0, 1), ask(1, 2, api.OpGet, "/b", ""), stands(3, id(0, 0), id(1, 0), id(2, 0))},
		{id(1, 1), member(4, 1, api.OpAdd, 7, 0), stands(4, id(0, 0), id(0, 1), id(1, 0), id(2, 0))},
		{id(2, 1), ask(3, 2, api.OpGet, "/b", ""), stands(5, id(0, 0), id(1, 1), id(2, 0))},
	}
	replies := func(order []int) (map[api.ID]api.Reply, api.Snap) {
		e, got := begun(t), map[api.ID]api.Reply{}
		for _, i := range order {
			e.Decide(l[i].id, l[i].cmd, l[i].attr)
			for _, s := range e.Run() {
				got[s.ID] = s.Reply
			}
		}
		return got, e.Snap()
	}
	want, snap := replies([]int{0, 1, 2, 3, 4, 5})
	if want[id(0, 1)].Value != "2" || len(want) != 5 || snap.Config.Epoch != 3 {
		t.Fatal(want, snap)
	}
	for i := range l {
		for j := range l {
			order := []int{0, 1, 2, 3, 4, 5}
			order[i], order[j] = order[j], order[i]
			slices.Reverse(order[j/2:])
			if got, s := replies(order); !reflect.DeepEqual(got, want) || !reflect.DeepEqual(s, snap) {
				t.Fatal(order, got, s)
			}
		}
	}
}
