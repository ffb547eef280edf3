package world

import (
	"fmt"
	"slices"
	"testing"

	"syndic/api"
	"syndic/ballot"
	"syndic/config"
	"syndic/disk"
	"syndic/graph"
	"syndic/num"
	"syndic/paths"
	"syndic/sum"
	"syndic/touch"
)

// The ten examples of the document.

func TestExample1NumbersAndSums(t *testing.T) {
	if b, err := num.New().Num(300).Bytes(); string(b) != "\xac\x02" || err != api.OK {
		t.Errorf("%x, %v", b, err)
	}
	if s := sum.Of([]byte("123456789")); s != 0xcbf43926 {
		t.Errorf("%x", s)
	}
}

func TestExample2Enough(t *testing.T) {
	four := api.Config{Nodes: []int{1, 2, 3, 4}}
	if !ballot.Enough(api.Config{Nodes: []int{1, 2, 3}}, []int{1, 3}) || ballot.Enough(four, []int{1, 3}) || !ballot.Enough(four, []int{1, 3, 4}) {
		t.Error("enough")
	}
}

func TestExample3Below(t *testing.T) {
	if !paths.Below("/", "/a") || paths.Below("/a", "/ab") {
		t.Error("below")
	}
}

func TestExample4Matter(t *testing.T) {
	if touch.Both(api.Command{Client: 1, Op: api.OpSet, Path: "/a"}, api.Command{Client: 2, Op: api.OpGet, Path: "/b"}) {
		t.Error("they matter to each other")
	}
}

func TestExample5AnsweredTwice(t *testing.T) {
	w := made(t, three, 3)
	for _, n := range []int{0, 2} {
		does(t, w, call(n, create(1, "/a")))
		settle(t, w)
	}
	replies := 0
	for _, e := range w.Events() {
		if e.Kind == api.EvReply {
			replies++
			if e.Reply.Err != api.OK || e.Reply.Version != 1 {
				t.Errorf("%+v", e)
			}
		}
	}
	does(t, w, call(1, api.Command{Client: 2, Seq: 1, Op: api.OpGet, Path: "/a"}))
	settle(t, w)
	if last := lastReply(w, 1); replies != 2 || last.Version != 1 {
		t.Error(replies, last)
	}
}

// lastReply is what a node answered last.
func lastReply(w *World, n int) api.Reply {
	var r api.Reply
	for _, e := range w.Events() {
		if e.Kind == api.EvReply && e.Node == n {
			r = e.Reply
		}
	}
	return r
}

func TestExample6Replace(t *testing.T) {
	c, err := config.Change(api.Config{Nodes: []int{1, 2, 3}}, api.Command{Op: api.OpReplace, A: 2, B: 7})
	if err != api.OK || !config.Same(c, api.Config{Epoch: 1, Nodes: []int{1, 3, 7}}) {
		t.Error(c, err)
	}
	w := made(t, api.Config{Nodes: []int{1, 2, 3}}, 8)
	does(t, w, call(3, create(1, "/a")))
	settle(t, w)
	does(t, w, call(2, api.Command{Client: 9, Seq: 1, Op: api.OpReplace, A: 2, B: 7}))
	settle(t, w)
	for _, n := range []int{1, 3, 7} {
		s := w.Node(n).Engine().Start()
		if !config.Same(s.Config, c) || len(s.Paths) != 1 || len(s.Sessions) != 2 {
			t.Error(n, s)
		}
	}
	does(t, w, call(7, api.Command{Client: 2, Seq: 1, Op: api.OpGet, Path: "/a"}))
	settle(t, w)
	if r := lastReply(w, 7); r.Version != 1 {
		t.Error(r)
	}
}

func TestExample7Groups(t *testing.T) {
	a, b, c := id(0, 0), id(0, 1), id(0, 2)
	leads := func(x, to api.ID) graph.Node { return graph.Node{ID: x, Attr: api.Attr{Deps: []api.ID{to}}} }
	l := graph.Order([]graph.Node{leads(c, a), leads(b, a), leads(a, b)}, nil)
	if fmt.Sprint(l) != fmt.Sprint([][]api.ID{{a, b}, {c}}) {
		t.Error(l)
	}
}

func TestExample8Broken(t *testing.T) {
	d := disk.New()
	d.Append([]byte("a"))
	d.Sync()
	d.Append([]byte("b"))
	d.Crash(8)
	if l := d.Open(); len(l) != 1 || string(l[0]) != "a" {
		t.Errorf("%q", l)
	}
}

func TestExample9AllAlikeOrTwo(t *testing.T) {
	w := made(t, three, 3)
	does(t, w, call(0, create(1, "/a")))
	settle(t, w)
	if sent(w.Sent()) != "pre01 pre02 preok10 preok20 commit01 commit02" {
		t.Error(sent(w.Sent()))
	}
	w = made(t, three, 3)
	does(t, w, api.Act{Kind: api.ActCrash, A: 2, B: -1}, call(0, create(1, "/a")))
	settle(t, w)
	does(t, w, act(api.ActTick, 0))
	settle(t, w)
	if sent(w.Sent()) != "pre01 pre02 preok10 accept01 accept02 acceptok10 commit01 commit02" {
		t.Error(sent(w.Sent()))
	}
	if told(w.Events()) != "crash2:0.0 commit0:0.0 apply0:0.0 reply0:0.0 commit1:0.0 apply1:0.0" {
		t.Error(told(w.Events()))
	}
}

func TestExample10TakenOver(t *testing.T) {
	over := func(heard int) *World {
		w := made(t, three, 3)
		does(t, w, call(0, create(1, "/a")))
		for range heard {
			does(t, w, act(api.ActDeliver, 0))
		}
		for w.Flying() > 0 {
			does(t, w, act(api.ActDrop, 0))
		}
		does(t, w, api.Act{Kind: api.ActCrash, A: 0, B: -1}, api.Act{Kind: api.ActRecover, A: 1, ID: id(0, 0)})
		settle(t, w)
		return w
	}
	w := over(1) // one of the others knows it: as it was
	if x := w.Node(2).Book().Get(id(0, 0)); x.Status != api.StCommitted || x.Cmd != create(1, "/a") {
		t.Errorf("%+v", x)
	}
	w = over(0) // none of them: as nothing
	if x := w.Node(2).Book().Get(id(0, 0)); x.Status != api.StCommitted || x.Cmd != (api.Command{}) {
		t.Errorf("%+v", x)
	}
	does(t, w, act(api.ActStart, 0), api.Act{Kind: api.ActRecover, A: 0, ID: id(0, 0)})
	settle(t, w)
	if x := w.Node(0).Book().Get(id(0, 0)); x.Status != api.StCommitted || x.Cmd != (api.Command{}) {
		t.Errorf("%+v", x)
	}
	if !slices.Equal(w.Node(0).Engine().Done(), []api.ID{id(0, 0)}) {
		t.Error(w.Node(0).Engine().Done())
	}
}
