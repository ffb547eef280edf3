package record

import (
	"math"
	"reflect"
	"slices"
	"testing"

	"syndic/api"
	"syndic/code"
)

// snap is where an epoch begins.
func snap(epoch int) api.Snap {
	return api.Snap{
		Config:   api.Config{Epoch: epoch, Nodes: []int{0, 1, 2}},
		Paths:    []api.Entry{{Path: "/a", Value: "v", Version: 3}},
		Sessions: []api.Session{{Client: 5, Seq: 7, Reply: api.Reply{Names: []string{"x", "y"}}}},
	}
}

// id is an instance of epoch 2.
func id(node, no int) api.ID { return api.ID{Epoch: 2, Node: node, No: no} }

// inst is an instance that tells a number.
func inst(n int) api.Inst {
	return api.Inst{Status: api.StPre, Promise: api.Ballot{No: n}, Cmd: api.Command{Client: n}, Attr: api.Attr{Seq: n, Deps: []api.ID{id(9, n)}}}
}

// kept is a record of an instance.
func kept(x api.ID, n int) code.Record { return code.Record{ID: x, Inst: inst(n)} }

// seal is a record of a snap.
func seal(s api.Snap) code.Record { return code.Record{Seal: true, Snap: s} }

// bodies are records as bytes.
func bodies(t *testing.T, l ...code.Record) [][]byte {
	t.Helper()
	var out [][]byte
	for _, r := range l {
		b, err := code.Put(r)
		if err != api.OK {
			t.Fatal(err)
		}
		out = append(out, b)
	}
	return out
}

// knows holds a state against the numbers that its instances tell.
func knows(t *testing.T, s State, epoch int, want map[api.ID]int) {
	t.Helper()
	if !Same(s.Snap, snap(epoch)) || len(s.IDs) != len(want) || len(s.Of) != len(want) {
		t.Errorf("%+v", s)
	}
	for x, n := range want {
		if !slices.Contains(s.IDs, x) || !reflect.DeepEqual(s.Of[x], inst(n)) {
			t.Errorf("%v: %+v", x, s.Of[x])
		}
	}
	for i := range s.IDs {
		if i > 0 && (s.IDs[i-1].No > s.IDs[i].No || s.IDs[i-1] == s.IDs[i]) {
			t.Error("no set:", s.IDs)
		}
	}
}

func TestReplay(t *testing.T) {
	knows(t, Replay(snap(2), nil), 2, nil)
	l := bodies(t, kept(id(1, 3), 1), kept(id(0, 0), 2), kept(id(1, 3), 3), kept(id(1, 1), 4), kept(api.ID{Epoch: 1}, 5), kept(api.ID{Epoch: 3}, 6))
	knows(t, Replay(snap(2), l), 2, map[api.ID]int{id(0, 0): 2, id(1, 1): 4, id(1, 3): 3})
	broken := slices.Insert(l, 1, nil, []byte{}, []byte{2}, []byte("what is this"), append(slices.Clone(l[0]), 0), l[0][:5])
	knows(t, Replay(snap(2), broken), 2, map[api.ID]int{id(0, 0): 2, id(1, 1): 4, id(1, 3): 3})
}

func TestReplayOverEpochs(t *testing.T) {
	at := api.ID{Epoch: 5, Node: 1, No: 1}
	l := bodies(t, kept(id(1, 3), 1), kept(at, 2), seal(snap(1)), seal(snap(2)), kept(id(1, 4), 3), seal(snap(5)), kept(id(1, 5), 4), kept(at, 5), seal(snap(5)), seal(snap(4)))
	knows(t, Replay(snap(2), l[:5]), 2, map[api.ID]int{id(1, 3): 1, id(1, 4): 3})
	knows(t, Replay(snap(2), l[:6]), 5, nil)
	knows(t, Replay(snap(2), l), 5, map[api.ID]int{at: 5})
	knows(t, Replay(snap(6), l), 6, nil)
	odd := snap(9)
	odd.Config.Nodes = []int{1, 1}
	knows(t, Replay(snap(2), bodies(t, kept(id(1, 3), 1), seal(odd))), 2, map[api.ID]int{id(1, 3): 1})
	odd = api.Snap{Config: api.Config{Epoch: 9}}
	knows(t, Replay(snap(2), bodies(t, kept(id(1, 3), 1), seal(odd))), 2, map[api.ID]int{id(1, 3): 1})
}

func TestAdd(t *testing.T) {
	s := Replay(snap(2), bodies(t, kept(id(1, 3), 1), kept(id(0, 0), 2)))
	knows(t, Add(s, kept(id(1, 3), 7)), 2, map[api.ID]int{id(1, 3): 7, id(0, 0): 2})
	knows(t, Add(s, kept(id(2, 1), 7)), 2, map[api.ID]int{id(1, 3): 1, id(0, 0): 2, id(2, 1): 7})
	knows(t, Add(s, kept(api.ID{Epoch: 4}, 7)), 2, map[api.ID]int{id(1, 3): 1, id(0, 0): 2})
	knows(t, Add(s, seal(snap(2))), 2, map[api.ID]int{id(1, 3): 1, id(0, 0): 2})
	knows(t, Add(s, seal(api.Snap{})), 2, map[api.ID]int{id(1, 3): 1, id(0, 0): 2})
	knows(t, Add(s, seal(snap(3))), 3, nil)
	knows(t, s, 2, map[api.ID]int{id(1, 3): 1, id(0, 0): 2})
	less := Add(s, code.Record{ID: id(1, 3)})
	if !reflect.DeepEqual(less.Of[id(1, 3)], api.Inst{}) {
		t.Error("as the record has it, whatever was known:", less)
	}
	var zero State
	if x := Add(zero, code.Record{ID: api.ID{Node: 1}, Inst: inst(1)}); len(x.IDs) != 1 || len(x.Of) != 1 {
		t.Error(x)
	}
	knows(t, Add(zero, seal(snap(1))), 1, nil)
}

func TestNext(t *testing.T) {
	s := Replay(snap(2), bodies(t, kept(id(1, 4), 1), kept(id(0, 0), 2), kept(id(1, 2), 2)))
	for node, want := range map[int]int{0: 1, 1: 5, 2: 0, -1: 0} {
		if got := Next(s, node); got != want {
			t.Error(node, got)
		}
	}
	for _, l := range [][]api.ID{{id(1, -5), id(1, -7)}, {id(1, -7), id(1, -5)}} {
		if got := Next(State{IDs: l}, 1); got != -4 {
			t.Error(got)
		}
	}
	if got := Next(State{IDs: []api.ID{id(1, math.MaxInt), id(1, 3)}}, 1); got != math.MinInt {
		t.Error(got)
	}
	if Next(State{}, 0) != 0 {
		t.Error("of nothing")
	}
}

func TestSame(t *testing.T) {
	if !Same(snap(2), snap(2)) || !Same(api.Snap{}, api.Snap{Config: api.Config{Nodes: []int{}}, Paths: []api.Entry{}, Sessions: []api.Session{}}) {
		t.Error("the same")
	}
	for i, spoil := range []func(s *api.Snap){
		func(s *api.Snap) { s.Config.Epoch++ },
		func(s *api.Snap) { s.Config.Nodes[1] = 9 },
		func(s *api.Snap) { s.Config.Nodes = s.Config.Nodes[:2] },
		func(s *api.Snap) { s.Paths[0].Path = "/b" },
		func(s *api.Snap) { s.Paths[0].Value = "b" },
		func(s *api.Snap) { s.Paths[0].Version = 1 },
		func(s *api.Snap) { s.Paths = nil },
		func(s *api.Snap) { s.Sessions[0].Client = 1 },
		func(s *api.Snap) { s.Sessions[0].Seq = 1 },
		func(s *api.Snap) { s.Sessions[0].Reply.Err = 1 },
		func(s *api.Snap) { s.Sessions[0].Reply.Value = "1" },
		func(s *api.Snap) { s.Sessions[0].Reply.Version = 1 },
		func(s *api.Snap) { s.Sessions[0].Reply.Names[1] = "1" },
		func(s *api.Snap) { s.Sessions[0].Reply.Names = nil },
		func(s *api.Snap) { s.Sessions = append(s.Sessions, s.Sessions...) },
	} {
		s := snap(2)
		spoil(&s)
		if Same(s, snap(2)) || Same(snap(2), s) {
			t.Error(i)
		}
	}
}

func TestNothingIsShared(t *testing.T) {
	given := snap(2)
	s := Replay(given, bodies(t, kept(id(1, 3), 1)))
	r := kept(id(2, 3), 2)
	a := Add(s, r)
	r.Inst.Attr.Deps[0] = id(7, 7)
	given.Config.Nodes[0], given.Paths[0].Path, given.Sessions[0].Reply.Names[0] = 9, "/z", "z"
	knows(t, a, 2, map[api.ID]int{id(1, 3): 1, id(2, 3): 2})
	b := Add(a, kept(api.ID{Epoch: 9}, 1))
	b.Snap.Config.Nodes[0], b.Snap.Sessions[0].Reply.Names[0], b.IDs[0], b.Of[id(1, 3)].Attr.Deps[0] = 9, "z", id(7, 7), id(7, 7)
	delete(b.Of, id(2, 3))
	knows(t, a, 2, map[api.ID]int{id(1, 3): 1, id(2, 3): 2})
	knows(t, s, 2, map[api.ID]int{id(1, 3): 1})
	next := snap(3)
	c := Add(a, seal(next))
	next.Paths[0].Path = "/z"
	knows(t, c, 3, nil)
}

// What was kept last is known; an epoch never goes back.
func TestEpochsNeverGoBack(t *testing.T) {
	s, turn := Replay(snap(2), nil), uint32(5)
	next := func(n int) int {
		turn = turn*1664525 + 1013904223
		return int(turn>>8) % n
	}
	for i := range 500 {
		r := kept(api.ID{Epoch: 2 + next(20), Node: next(3), No: next(3)}, i)
		if next(4) == 0 {
			r = seal(snap(next(20)))
		}
		was := s.Snap.Config.Epoch
		s = Add(s, r)
		if s.Snap.Config.Epoch < was {
			t.Fatal(was, s.Snap)
		}
		if !r.Seal && r.ID.Epoch == was && !reflect.DeepEqual(s.Of[r.ID], r.Inst) {
			t.Fatal(s.Of[r.ID], r)
		}
	}
}
