package world

import (
	"math"
	"reflect"
	"slices"
	"strconv"
	"strings"
	"testing"

	"syndic/api"
	"syndic/code"
	"syndic/disk"
	"syndic/record"
)

var three = api.Config{Nodes: []int{0, 1, 2}}

// id is an instance of epoch 0.
func id(node, no int) api.ID { return api.ID{Node: node, No: no} }

// create is a command that makes a path.
func create(client int, path string) api.Command {
	return api.Command{Client: client, Seq: 1, Op: api.OpCreate, Path: path}
}

// call is an act: a client asks a node.
func call(n int, c api.Command) api.Act { return api.Act{Kind: api.ActCall, A: n, Cmd: c} }

// act is an act of a node, or a message.
func act(kind api.ActKind, a int) api.Act { return api.Act{Kind: kind, A: a} }

// made is a world.
func made(t *testing.T, c api.Config, nodes int) *World {
	t.Helper()
	w, err := New(c, nodes)
	if err != api.OK {
		t.Fatal(err)
	}
	return w
}

// does lets a world do acts that it can do.
func does(t *testing.T, w *World, l ...api.Act) {
	t.Helper()
	for _, a := range l {
		if err := w.Do(a); err != api.OK {
			t.Fatalf("%+v: %v", a, err)
		}
	}
}

// settle delivers till nothing flies.
func settle(t *testing.T, w *World) {
	t.Helper()
	for w.Flying() > 0 {
		does(t, w, act(api.ActDeliver, 0))
	}
}

// told is events as a text: the kind, the node, and the instance.
func told(l []api.Event) string {
	names := []string{"commit", "apply", "reply", "seal", "crash", "start"}
	var s []string
	for _, e := range l {
		s = append(s, names[e.Kind]+strconv.Itoa(e.Node)+":"+strconv.Itoa(e.ID.Node)+"."+strconv.Itoa(e.ID.No))
	}
	return strings.Join(s, " ")
}

// sent is messages as a text: the kind, from where, and to where.
func sent(l []api.Msg) string {
	names := []string{"pre", "preok", "accept", "acceptok", "commit", "prepare", "prepareok", "no", "ask", "snap"}
	var s []string
	for _, m := range l {
		s = append(s, names[m.Kind]+strconv.Itoa(m.From)+strconv.Itoa(m.To))
	}
	return strings.Join(s, " ")
}

func TestNew(t *testing.T) {
	for _, c := range []struct {
		conf  api.Config
		nodes int
		err   api.Errno
	}{
		{three, 3, api.OK},
		{three, 12, api.OK},
		{api.Config{Epoch: 9, Nodes: []int{0}}, 1, api.OK},
		{api.Config{Nodes: []int{11}}, 12, api.OK},
		{three, 2, api.ErrArg},
		{three, 13, api.ErrArg},
		{three, 0, api.ErrArg},
		{three, -1, api.ErrArg},
		{three, math.MaxInt, api.ErrArg},
		{api.Config{Nodes: []int{12}}, 12, api.ErrArg},
		{api.Config{}, 3, api.ErrArg},
		{api.Config{Nodes: []int{1, 0}}, 3, api.ErrArg},
		{api.Config{Epoch: -1, Nodes: []int{0}}, 3, api.ErrArg},
	} {
		w, err := New(c.conf, c.nodes)
		if err != c.err || (w == nil) != (err != api.OK) {
			t.Error(c, w, err)
		}
		if l, err := Run(c.conf, c.nodes, nil); len(l) != 0 || err != c.err {
			t.Error(c, l, err)
		}
		if err != api.OK {
			continue
		}
		if w.Flying() != 0 || len(w.Events()) != 0 || len(w.Sent()) != 0 {
			t.Error(c, "something happened")
		}
		for n := range c.nodes {
			if !w.Up(n) || w.Node(n).Epoch() != c.conf.Epoch || len(w.Disk(n).Bytes()) != 0 {
				t.Error(c, n)
			}
		}
	}
}

func TestWhatThereIsNot(t *testing.T) {
	w := made(t, three, 4)
	for _, n := range []int{-1, 4, math.MinInt, math.MaxInt} {
		if w.Up(n) || w.Node(n) != nil || w.Disk(n) != nil {
			t.Error(n)
		}
		for kind := api.ActCall; kind <= api.ActRecover; kind++ {
			if err := w.Do(act(kind, n)); err != api.ErrNone {
				t.Error(kind, n, err)
			}
		}
	}
	for _, kind := range []api.ActKind{api.ActDeliver, api.ActDrop, api.ActDouble, api.ActSpoil} {
		if err := w.Do(act(kind, 0)); err != api.ErrNone {
			t.Error(kind, err)
		}
	}
	for _, kind := range []api.ActKind{-1, 9, math.MaxInt, math.MinInt} {
		for _, n := range []int{0, -1, 99} {
			if err := w.Do(act(kind, n)); err != api.ErrArg {
				t.Error(kind, err)
			}
		}
	}
	does(t, w, api.Act{Kind: api.ActCrash, A: 1, B: -1})
	for _, kind := range []api.ActKind{api.ActCall, api.ActTick, api.ActRecover, api.ActCrash} {
		if err := w.Do(act(kind, 1)); err != api.ErrNone {
			t.Error(kind, err)
		}
	}
	if err := w.Do(act(api.ActStart, 0)); err != api.ErrBusy {
		t.Error(err)
	}
	if told(w.Events()) != "crash1:0.0" || w.Flying() != 0 || w.Node(1) != nil || w.Disk(1) == nil || w.Up(1) {
		t.Error(told(w.Events()))
	}
}

func TestDecidedAtAllThree(t *testing.T) {
	w := made(t, three, 3)
	does(t, w, call(0, create(1, "/a")))
	if w.Flying() != 2 || len(w.Events()) != 0 {
		t.Error(w.Flying())
	}
	settle(t, w)
	if got := told(w.Events()); got != "commit0:0.0 apply0:0.0 reply0:0.0 commit1:0.0 apply1:0.0 commit2:0.0 apply2:0.0" {
		t.Error(got)
	}
	if got := sent(w.Sent()); got != "pre01 pre02 preok10 preok20 commit01 commit02" {
		t.Error(got)
	}
	if e := w.Events()[2]; e.Reply.Version != 1 || e.Cmd != create(1, "/a") || e.Node != 0 {
		t.Errorf("%+v", e)
	}
	for n := range 3 {
		s := record.Replay(api.Snap{Config: three}, w.Disk(n).Open())
		if w.Disk(n).Dirty() != 0 || !slices.Equal(s.IDs, []api.ID{id(0, 0)}) || s.Of[id(0, 0)].Status != api.StCommitted {
			t.Error(n, s)
		}
	}
}

func TestMessagesInAnyOrder(t *testing.T) {
	w := made(t, three, 3)
	does(t, w, call(0, create(1, "/a")), act(api.ActDeliver, 1), act(api.ActDouble, 0))
	if got := sent(w.Sent()); got != "pre01 pre02 preok20" || w.Flying() != 3 {
		t.Error(got, w.Flying())
	}
	does(t, w, act(api.ActDrop, 0), act(api.ActDeliver, 0), act(api.ActTick, 0))
	if got := sent(w.Sent()); got != "pre01 pre02 preok20 accept01 accept02" || w.Flying() != 3 {
		t.Error(got, w.Flying())
	}
	does(t, w, act(api.ActDeliver, 0), act(api.ActDrop, 0), act(api.ActDrop, 0), act(api.ActDeliver, 0))
	if got := told(w.Events()); got != "" || w.Flying() != 0 {
		t.Error(got, w.Flying())
	}
	does(t, w, act(api.ActTick, 0), act(api.ActDeliver, 1), act(api.ActDeliver, 1))
	if got := told(w.Events()); got != "commit0:0.0 apply0:0.0 reply0:0.0" || w.Flying() != 3 {
		t.Error(got, w.Flying())
	}
}

func TestSpoiling(t *testing.T) {
	w := made(t, three, 3)
	does(t, w, call(0, create(1, "/a")), act(api.ActDouble, 0))
	f, _ := code.Frame(w.Sent()[0])
	bad := func(b, c int) api.Act { return api.Act{Kind: api.ActSpoil, A: 0, B: b, C: c} }
	for _, a := range []api.Act{bad(-1, 1), bad(len(f), 1), bad(0, 0), bad(0, 256), bad(0, -1), bad(math.MaxInt, 1)} {
		if err := w.Do(a); err != api.ErrArg {
			t.Error(a, err)
		}
	}
	does(t, w, bad(len(f)-1, 255))
	for _, a := range []api.Act{bad(len(f)-1, 255), act(api.ActDouble, 0)} {
		if err := w.Do(a); err != api.ErrArg {
			t.Error(a, err)
		}
	}
	does(t, w, act(api.ActDeliver, 0))
	if got := sent(w.Sent()); got != "pre01 pre02" || w.Flying() != 2 {
		t.Error("a spoilt message is heard:", got)
	}
	does(t, w, act(api.ActDeliver, 1))
	if got := sent(w.Sent()); got != "pre01 pre02 preok10" {
		t.Error("the double is spoilt, too:", got)
	}
	for b := range f {
		w = made(t, three, 3)
		does(t, w, call(0, create(1, "/a")), bad(b, 1+b%255), act(api.ActDeliver, 0))
		if w.Flying() != 1 || len(w.Node(1).Book().IDs()) != 0 {
			t.Error("spoilt at", b)
		}
	}
}

func TestToOneThatIsNotUp(t *testing.T) {
	w := made(t, three, 3)
	does(t, w, call(0, create(1, "/a")), api.Act{Kind: api.ActCrash, A: 1, B: -1})
	does(t, w, act(api.ActDeliver, 0))
	if w.Flying() != 1 || sent(w.Sent()) != "pre01 pre02" {
		t.Error(w.Flying())
	}
	does(t, w, call(0, api.Command{Client: 2, Seq: 1, Op: api.OpAdd, A: 9}))
	settle(t, w)
}

func TestCrashOfBytes(t *testing.T) {
	whole := made(t, three, 3)
	does(t, whole, call(0, create(1, "/a")))
	all := whole.Disk(0).Bytes()
	for keep := range len(all) + 2 {
		w := made(t, three, 3)
		does(t, w, api.Act{Kind: api.ActCrash, A: 0, B: keep})
		if !w.Up(0) || len(w.Events()) != 0 {
			t.Fatal("it is to crash, and is up till then")
		}
		does(t, w, act(api.ActTick, 0)) // it writes nothing
		does(t, w, call(0, create(1, "/a")))
		if w.Up(0) || w.Flying() != 0 || len(w.Sent()) != 0 || told(w.Events()) != "crash0:0.0" {
			t.Fatal(keep, told(w.Events()))
		}
		if !slices.Equal(w.Disk(0).Bytes(), all[:min(keep, len(all))]) || w.Disk(0).Dirty() != 0 {
			t.Fatal(keep, w.Disk(0).Bytes())
		}
		does(t, w, act(api.ActStart, 0))
		known := len(w.Node(0).Book().IDs())
		if !w.Up(0) || told(w.Events()) != "crash0:0.0 start0:0.0" || (known == 1) != (keep >= len(all)) {
			t.Fatal(keep, known)
		}
		does(t, w, call(0, create(1, "/b"))) // it is not to crash any more
		if w.Sent()[0].ID != id(0, known) {
			t.Fatal(keep, w.Sent()[0].ID)
		}
	}
}

func TestStart(t *testing.T) {
	w := made(t, three, 3)
	does(t, w, call(0, create(1, "/a")))
	settle(t, w)
	does(t, w, api.Act{Kind: api.ActCrash, A: 0, B: -1}, act(api.ActStart, 0))
	got := told(w.Events()[len(w.Events())-4:])
	if got != "crash0:0.0 start0:0.0 apply0:0.0 reply0:0.0" {
		t.Error(got)
	}
	if !reflect.DeepEqual(w.Events()[7], api.Event{Kind: api.EvCrash}) || !reflect.DeepEqual(w.Events()[8], api.Event{Kind: api.EvStart}) {
		t.Error(w.Events()[7:9])
	}
}

// What a disk tells that no node can know: it is up no more, and nothing else is wrong.
func TestStartOfAnOddDisk(t *testing.T) {
	w := made(t, three, 3)
	does(t, w, api.Act{Kind: api.ActCrash, A: 0, B: -1})
	odd, _ := code.Put(code.Record{Seal: true, Snap: api.Snap{Config: api.Config{Epoch: 1, Nodes: []int{0}}, Paths: []api.Entry{{Path: "?"}}}})
	w.Disk(0).Append(odd)
	if err := w.Do(act(api.ActStart, 0)); err != api.ErrArg || w.Up(0) || told(w.Events()) != "crash0:0.0" {
		t.Error(err, told(w.Events()))
	}
	w.Disk(1).Append([]byte("what is this"))
	does(t, w, api.Act{Kind: api.ActCrash, A: 1, B: -1}, act(api.ActStart, 1), call(1, create(1, "/a")))
}

func TestWhatCantBeWritten(t *testing.T) {
	w := made(t, three, 3)
	does(t, w, call(0, api.Command{Client: -1, Seq: 1, Op: api.OpCreate, Path: "/a"}))
	if w.Flying() != 0 || len(w.Sent()) != 0 || len(w.Disk(0).Bytes()) != 0 {
		t.Error(w.Flying(), w.Sent())
	}
	does(t, w, api.Act{Kind: api.ActCrash, A: 0, B: 5}, call(0, api.Command{Client: -1, Seq: 1, Op: api.OpCreate, Path: "/a"}))
	if w.Up(0) || told(w.Events()) != "crash0:0.0" {
		t.Error("there are records, though none can be written")
	}
}

func TestRecoverAndTick(t *testing.T) {
	w := made(t, three, 3)
	does(t, w, api.Act{Kind: api.ActRecover, A: 1, ID: id(0, 0)})
	if got := sent(w.Sent()); got != "prepare10 prepare12" {
		t.Error(got)
	}
	does(t, w, act(api.ActTick, 1), act(api.ActTick, 0))
	if got := sent(w.Sent()); got != "prepare10 prepare12 prepare10 prepare12" {
		t.Error(got)
	}
	settle(t, w)
	if got := told(w.Events()); !strings.Contains(got, "commit2:0.0") || w.Node(0).Book().Get(id(0, 0)).Cmd != (api.Command{}) {
		t.Error(got)
	}
}

func TestNothingIsShared(t *testing.T) {
	c := api.Config{Nodes: []int{0, 1, 2}}
	w := made(t, c, 4)
	c.Nodes[0] = 3
	does(t, w, call(0, create(1, "/a")))
	settle(t, w)
	does(t, w, call(0, create(2, "/a")))
	settle(t, w)
	does(t, w, call(0, api.Command{Client: 1, Seq: 2, Op: api.OpList, Path: "/"}))
	settle(t, w)
	does(t, w, call(0, api.Command{Client: 1, Seq: 3, Op: api.OpAdd, A: 3}))
	settle(t, w)
	events, msgs := w.Events(), w.Sent()
	for i := range events {
		for j := range events[i].Attr.Deps {
			events[i].Attr.Deps[j].No = 77
		}
		for j := range events[i].Reply.Names {
			events[i].Reply.Names[j] = "77"
		}
		for j := range events[i].Conf.Nodes {
			events[i].Conf.Nodes[j] = 77
		}
	}
	for i := range msgs {
		for j := range msgs[i].Inst.Attr.Deps {
			msgs[i].Inst.Attr.Deps[j].No = 77
		}
		for j := range msgs[i].Snap.Config.Nodes {
			msgs[i].Snap.Config.Nodes[j] = 77
		}
	}
	for _, e := range w.Events() {
		if slices.Contains(e.Conf.Nodes, 77) || slices.Contains(e.Reply.Names, "77") || slices.ContainsFunc(e.Attr.Deps, func(x api.ID) bool { return x.No == 77 }) {
			t.Fatalf("%+v", e)
		}
	}
	for _, m := range w.Sent() {
		if slices.Contains(m.Snap.Config.Nodes, 77) || slices.ContainsFunc(m.Inst.Attr.Deps, func(x api.ID) bool { return x.No == 77 }) {
			t.Fatalf("%+v", m)
		}
	}
	does(t, w, api.Act{Kind: api.ActCrash, A: 0, B: -1}, act(api.ActStart, 0))
	if w.Node(0).Epoch() != 1 || !slices.Equal(w.Node(0).Engine().Start().Config.Nodes, []int{0, 1, 2, 3}) {
		t.Error(w.Node(0).Engine().Start())
	}
}

func TestRun(t *testing.T) {
	script := []api.Act{call(0, create(1, "/a")), act(api.ActDeliver, 99), act(99, 0), act(api.ActDeliver, 0), act(api.ActDeliver, 0), act(api.ActDeliver, 0), act(api.ActDeliver, 0)}
	l, err := Run(three, 3, script)
	if err != api.OK || told(l) != "commit0:0.0 apply0:0.0 reply0:0.0" {
		t.Error(told(l), err)
	}
	w := made(t, three, 3)
	for _, a := range script {
		w.Do(a)
	}
	if !reflect.DeepEqual(w.Events(), l) {
		t.Error("another world did something else")
	}
}

// A disk is the node's own: what is told of it is what it has.
func TestDiskIsTheNodes(t *testing.T) {
	w := made(t, three, 3)
	d := w.Disk(0)
	does(t, w, call(0, create(1, "/a")))
	if len(d.Bytes()) == 0 || !slices.Equal(disk.Of(d.Bytes()).Bytes(), w.Disk(0).Bytes()) {
		t.Error("another disk")
	}
}
