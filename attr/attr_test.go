package attr

import (
	"math"
	"slices"
	"testing"

	"syndic/api"
)

// id is an instance of epoch 1.
func id(node, no int) api.ID { return api.ID{Epoch: 1, Node: node, No: no} }

// stands is an attribute.
func stands(seq int, deps ...api.ID) api.Attr { return api.Attr{Seq: seq, Deps: deps} }

// is tells whether an attribute is just as it is wanted.
func is(a, want api.Attr) bool { return a.Seq == want.Seq && slices.Equal(a.Deps, want.Deps) }

// set is a command that sets a path.
func set(client int, path string) api.Command {
	return api.Command{Client: client, Seq: 1, Op: api.OpSet, Path: path}
}

// many are so many instances, rising.
func many(n int) []api.ID {
	var l []api.ID
	for i := range n {
		l = append(l, id(1, i))
	}
	return l
}

func TestValid(t *testing.T) {
	for i, a := range []api.Attr{stands(0), stands(1<<40, id(1, 0), id(3, 0), id(1, 1)), stands(1, many(1024)...), stands(5, id(31, 1<<40))} {
		if !Valid(id(2, 0), a) {
			t.Error(i)
		}
	}
	for i, a := range []api.Attr{
		stands(-1), stands(1<<40 + 1), stands(math.MinInt), stands(1, many(1025)...),
		stands(1, id(2, 0)), stands(1, id(1, 0), id(2, 0), id(3, 0)),
		stands(1, id(3, 0), id(1, 0)), stands(1, id(3, 0), id(3, 0)),
		stands(1, id(32, 0)), stands(1, id(-1, 0)), stands(1, id(1, -1)), stands(1, id(1, 1<<40+1)),
		stands(1, api.ID{Epoch: 0}), stands(1, id(1, 1), api.ID{Epoch: 2}),
	} {
		if Valid(id(2, 0), a) {
			t.Error(i)
		}
	}
	if Valid(api.ID{Epoch: -1}, stands(1, api.ID{Epoch: -1, Node: 1})) || !Valid(api.ID{Epoch: -1}, stands(1)) {
		t.Error("of an instance that can't be")
	}
}

func TestLocal(t *testing.T) {
	l := []Known{
		{id(2, 3), set(1, "/a"), stands(4)},
		{id(1, 0), set(2, "/b"), stands(9)},
		{id(2, 1), set(3, "/a"), stands(6, id(1, 0))},
		{id(0, 0), set(4, "/a"), stands(20)},
		{id(2, 1), set(3, "/c"), stands(30)},
		{api.ID{Epoch: 0, Node: 2}, set(5, "/a"), stands(40)},
		{api.ID{Epoch: 2, Node: 2}, set(5, "/a"), stands(50)},
		{id(2, 9), api.Command{}, stands(60)},
	}
	for _, c := range []struct {
		known []Known
		x     api.Command
		want  api.Attr
	}{
		{l, set(7, "/a"), stands(7, id(2, 1), id(2, 3))},
		{l, set(2, "/z"), stands(10, id(1, 0))},
		{l, set(2, "/a"), stands(10, id(1, 0), id(2, 1), id(2, 3))},
		{l, set(3, "/z"), stands(31, id(2, 1))},
		{l, set(9, "/z"), stands(1)},
		{l, api.Command{}, stands(1)},
		{l, api.Command{Client: 9, Op: api.OpAdd}, stands(31, id(1, 0), id(2, 1), id(2, 3))},
		{nil, set(1, "/a"), stands(1)},
		{[]Known{{id(1, 0), set(2, "/a"), stands(-5)}}, set(1, "/a"), stands(1, id(1, 0))},
		{[]Known{{id(1, 0), set(2, "/a"), stands(0)}}, set(1, "/a"), stands(1, id(1, 0))},
		{[]Known{{id(1, 0), set(2, "/a"), stands(math.MaxInt)}}, set(1, "/a"), stands(math.MinInt, id(1, 0))},
	} {
		if got := Local(c.known, id(0, 0), c.x); !is(got, c.want) {
			t.Errorf("%+v: %+v", c.x, got)
		}
	}
}

func TestMergeAndAll(t *testing.T) {
	a, b, c := stands(3, id(2, 2), id(1, 1)), stands(5, id(3, 0), id(1, 1), id(1, 1)), stands(-4)
	if got := Merge(a, b); !is(got, stands(5, id(3, 0), id(1, 1), id(2, 2))) {
		t.Error(got)
	}
	if got := Merge(c, stands(-9)); !is(got, stands(-4)) {
		t.Error(got)
	}
	for _, x := range []struct {
		l    []api.Attr
		want api.Attr
	}{
		{nil, stands(0)},
		{[]api.Attr{c}, stands(-4)},
		{[]api.Attr{b}, stands(5, id(3, 0), id(1, 1))},
		{[]api.Attr{a, b, c}, stands(5, id(3, 0), id(1, 1), id(2, 2))},
		{[]api.Attr{c, stands(-9, id(0, 0))}, stands(-4, id(0, 0))},
	} {
		if got := All(x.l); !is(got, x.want) {
			t.Error(x.l, got)
		}
	}
}

// In whatever order attributes are merged, it comes to the same; what each saw is in it.
func TestMergingInAnyOrder(t *testing.T) {
	l := []api.Attr{stands(2, id(1, 1), id(1, 2)), stands(7, id(0, 1)), stands(7, id(2, 1), id(1, 1))}
	want := All(l)
	for _, order := range [][]int{{0, 1, 2}, {0, 2, 1}, {1, 0, 2}, {1, 2, 0}, {2, 0, 1}, {2, 1, 0}} {
		x, y, z := l[order[0]], l[order[1]], l[order[2]]
		for _, got := range []api.Attr{All([]api.Attr{x, y, z}), Merge(Merge(x, y), z), Merge(x, Merge(y, z))} {
			if !is(got, want) {
				t.Error(order, got)
			}
		}
	}
	for _, a := range l {
		for _, dep := range a.Deps {
			if !slices.Contains(want.Deps, dep) || a.Seq > want.Seq {
				t.Error(a)
			}
		}
	}
}

func TestSameAndAgree(t *testing.T) {
	a, b := stands(3, id(2, 2), id(1, 1)), stands(3, id(1, 1), id(2, 2), id(1, 1))
	if !Same(a, b) || !Same(stands(0), stands(0, []api.ID{}...)) {
		t.Error("the same ones")
	}
	for _, x := range []api.Attr{stands(4, a.Deps...), stands(3), stands(3, id(1, 1)), stands(3, id(1, 1), id(2, 2), id(3, 3))} {
		if Same(a, x) || Same(x, a) || Agree([]api.Attr{a, b, x}) || Agree([]api.Attr{x, a}) {
			t.Error(x)
		}
	}
	if Agree(nil) || !Agree([]api.Attr{a}) || !Agree([]api.Attr{a, b, a}) {
		t.Error("agree")
	}
}

func TestLinked(t *testing.T) {
	a := Known{id(1, 0), set(1, "/a"), stands(1)}
	b := Known{id(2, 0), set(2, "/a"), stands(2, id(0, 0), id(1, 0))}
	c := Known{id(3, 0), set(3, "/a"), stands(2, id(0, 0))}
	if !Linked(a, b) || !Linked(b, a) || Linked(a, c) || Linked(c, b) || Linked(a, a) {
		t.Error("linked")
	}
}

func TestNothingIsShared(t *testing.T) {
	a := stands(3, id(1, 1), id(2, 2))
	for _, got := range []api.Attr{Merge(a, stands(0)), Merge(stands(0), a), All([]api.Attr{a}), All([]api.Attr{a, a})} {
		got.Deps[0] = id(9, 9)
		if !is(a, stands(3, id(1, 1), id(2, 2))) {
			t.Fatal(a)
		}
	}
}
